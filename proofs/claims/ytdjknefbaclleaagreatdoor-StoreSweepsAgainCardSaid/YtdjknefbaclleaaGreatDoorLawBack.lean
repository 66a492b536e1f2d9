/-
  The walk of the statement DigestBack: it returns true for every digest, half and string (the table of constants reads as it is laid).
-/
import Derived.Test.YtdjknefbaclleaaGreatDoorGe
namespace Go.Proofs.YtdjknefbaclleaaGreatDoor
open Go.RowKit

theorem hexl_hexvF : ∀ c : Fin 256, hexv (UInt8.ofNat c.val) < 16 → hexl (hexv (UInt8.ofNat c.val)) = UInt8.ofNat c.val := by decide +kernel
theorem hexl_hexv (c : UInt8) (h : hexv c < 16) : hexl (hexv c) = c := by
  have := hexl_hexvF ⟨c.toNat, UInt8.toNat_lt _⟩
  simp only [UInt8.ofNat_toNat] at this
  exact this h
theorem hok_at {l : List UInt8} {n : Nat} (h : hok l n = true) (i : Nat) (hi : i < n) : hexv (l.getD (2 * i) 0) < 16 ∧ hexv (l.getD (2 * i + 1) 0) < 16 := by
  unfold hok at h
  have := (List.all_eq_true.1 h) i (by simpa using hi)
  unfold hok1 at this
  simpa using this
theorem hbs_byt {l : List UInt8} {n : Nat} (h : hok l n = true) : Byt (hbs l n) := fun x hx => by
  unfold hbs at hx
  obtain ⟨i, hi, rfl⟩ := List.mem_map.1 hx
  have := hok_at h i (by simpa using hi)
  unfold hby; omega
theorem hexB_hbs (l : List UInt8) (n : Nat) (hl : l.length = 2 * n) (h : hok l n = true) : hexB (hbs l n) = l := by
  have key : ∀ k, k ≤ n → hexB (hbs l k) = l.take (2 * k) := by
    intro k
    induction k with
    | zero => intro _; rfl
    | succ k ih =>
      intro hk
      have hp := hok_at h k (by omega)
      have e0 : l.getD (2 * k) 0 = l[2 * k]'(by omega) := by rw [List.getD_eq_getElem?_getD, List.getElem?_eq_getElem (by omega)]; rfl
      have e1 : l.getD (2 * k + 1) 0 = l[2 * k + 1]'(by omega) := by rw [List.getD_eq_getElem?_getD, List.getElem?_eq_getElem (by omega)]; rfl
      rw [hbs_succ]
      unfold hexB
      rw [List.flatMap_append]
      have ih' := ih (by omega)
      unfold hexB at ih'
      rw [ih', show 2 * (k + 1) = 2 * k + 1 + 1 by omega, List.take_succ_eq_append_getElem (by omega), List.take_succ_eq_append_getElem (by omega), List.append_assoc]
      congr 1
      have d1 : (hby l k).toNat / 16 = hexv (l.getD (2 * k) 0) := by unfold hby; omega
      have d2 : (hby l k).toNat % 16 = hexv (l.getD (2 * k + 1) 0) := by unfold hby; omega
      rw [List.flatMap_singleton, d1, d2, hexl_hexv _ hp.1, hexl_hexv _ hp.2, e0, e1]; rfl
  have := key n (Nat.le_refl _)
  rw [this, ← hl, List.take_length]

/-- the text of a digest is read -/
def fmtD (d : List Int) : ByteArray := ⟨([115, 104, 97, 50, 53, 54, 58] ++ hexB d).toArray⟩
theorem fmtD_list (d : List Int) : (fmtD d).data.toList = pfx.data.toList ++ hexB d := rfl
theorem pok_hexB (a : List Int) (n : Nat) (hl : a.length = n) (ha : Byt a) : pok (hexB a) n = true ∧ pby (hexB a) n = a := by
  subst hl
  have h1 : pok (hexB a) a.length = true := by unfold pok; rw [hexB_length, hok_hexB a ha]; simp
  exact ⟨h1, by unfold pby; rw [if_pos h1, hbs_hexB a ha]⟩
theorem ppok_fmt (d : List Int) (hl : d.length = 32) (hd : Byt d) : ppok (fmtD d).data.toList = true ∧ ppby (fmtD d).data.toList = d := by
  have ht : (fmtD d).data.toList.take 7 = pfx.data.toList := by rw [fmtD_list, List.take_append_of_le_length (Nat.le_refl 7)]; rfl
  have hdr : (fmtD d).data.toList.drop 7 = hexB d := by rw [fmtD_list, List.drop_append_of_le_length (Nat.le_refl 7)]; rfl
  have h1 : ppok (fmtD d).data.toList = true := by unfold ppok; rw [hdr, (pok_hexB d 32 hl hd).1, decide_eq_true ht]; rfl
  refine ⟨h1, ?_⟩
  have h2 := (pok_hexB d 32 hl hd)
  unfold ppby; rw [if_pos h1, hdr]
  have h3 := h2.2
  unfold pby at h3; rw [if_pos h2.1] at h3; exact h3
/-- what is read has the text that was read -/
theorem fmt_read (s : ByteArray) (h : pok s.data.toList 16 = true) : (⟨(hexB (pby s.data.toList 16)).toArray⟩ : ByteArray) = s ∧ (pby s.data.toList 16).length = 16 ∧ Byt (pby s.data.toList 16) := by
  have hb := h
  unfold pok at hb
  simp only [Bool.and_eq_true, decide_eq_true_eq] at hb
  have e : pby s.data.toList 16 = hbs s.data.toList 16 := by unfold pby; rw [if_pos h]
  rw [e]
  exact ⟨by apply ByteArray.ext; rw [hexB_hbs _ _ hb.1 hb.2], hbs_length _ _, hbs_byt hb.2⟩
theorem fmtD_read (s : ByteArray) (h : ppok s.data.toList = true) : fmtD (ppby s.data.toList) = s ∧ (ppby s.data.toList).length = 32 ∧ Byt (ppby s.data.toList) := by
  have hb := h
  unfold ppok pok at hb
  simp only [Bool.and_eq_true, decide_eq_true_eq] at hb
  have e : ppby s.data.toList = hbs (s.data.toList.drop 7) 32 := by unfold ppby; rw [if_pos h]
  rw [e]
  refine ⟨?_, hbs_length _ _, hbs_byt hb.2.2⟩
  apply ByteArray.ext
  show ([115, 104, 97, 50, 53, 54, 58] ++ hexB (hbs (s.data.toList.drop 7) 32)).toArray = s.data
  rw [hexB_hbs _ _ hb.2.1 hb.2.2]
  have : ([115, 104, 97, 50, 53, 54, 58] : List UInt8) = s.data.toList.take 7 := hb.1.symm
  rw [this, List.take_append_drop]
/-- the load of a row under a guard that lets it run -/
theorem wpList_load_row_g {P : Program} {ops : Array Oper} {rest : List Oper} {o : Oper} {a : Act} {w : World} {Q : Exit → Act → World → Prop} (hw : Region.wanted o (yielded ops a.tmps) = true) (ty : TypeId) (x : Operand) (ho : o.op = .load ty x)
    (g : Nat) (hx : a.eval x = .pointer (some ⟨g, 0, none⟩)) (t : TypeId) (cs : Array Value) (fr : Nat × Nat) (d : TypeDesc) (hg : w.heap[g]? = some (.cells cs t fr))
    (hu : P.underlying ty = some d) (hd : (match d with | .struct _ | .array _ _ => true | _ => false) = true) (hi : (P.info? ty).map (·.size) = some cs.size)
    (h : wpList P ops Q rest (a.put o.dst (.agg cs)) w) : wpList P ops Q (o :: rest) a w :=
  wpList_step fun K hK => by rw [if_pos hw]; exact wp_load_row ty x ho g hx t cs fr d hg hu hd hi (hK _ _ h)
theorem neq_digest (X : List Int) (hX : X.length = 32) (w : World) : (binOp .neq 29 (.agg (X.map (Value.int .u8)).toArray) (.agg (X.map (Value.int .u8)).toArray)).run Tryz.prog w = .ok (.bool false) w := by
  have hc : Tryz.prog.cellsOf 5 = 1 := by kernel_rfl
  obtain ⟨i, hi⟩ : ∃ i, Tryz.prog.info? 5 = some i := Option.isSome_iff_exists.1 (by kernel_rfl)
  have h := run_equalIn_array (P := Tryz.prog) w 9999 (X.map (Value.int .u8)).toArray (X.map (Value.int .u8)).toArray Tryz.underlying29 hi
  rw [hc] at h
  have e := eq_items 9998 X X (List.range 32) w (fun j hj => by rw [hX]; simpa using hj)
  have r := all_range_eq X X rfl
  rw [hX] at r
  rw [r] at e
  rw [e] at h
  simp only [binOp]
  simp [Op.equal, Op.maxDepth, h]
end Go.Proofs.YtdjknefbaclleaaGreatDoor
