/-
  Stores: the walk of the reference's Sweep.
-/
import Derived.Test.YtfehgkpmjnmpeaaGreatDoorSweB
import Derived.Test.YtfehgkpmjnmpeaaGreatDoorGy
namespace Go.Proofs.YtfehgkpmjnmpeaaGreatDoor
open Go.RowKit Go.Sort

theorem nodup_sub {α : Type} [DecidableEq α] : ∀ {a b : List α}, a.Nodup → (∀ x ∈ a, x ∈ b) → a.length ≤ b.length
  | [], _, _, _ => Nat.zero_le _
  | x :: a, b, hn, hs => by
    obtain ⟨h1, h2⟩ := List.nodup_cons.1 hn
    have hx := hs x (by simp)
    have h3 := nodup_sub (b := b.erase x) h2 (fun y hy => (List.mem_erase_of_ne (fun (e : y = x) => h1 (by rw [← e]; exact hy))).2 (hs y (by simp [hy])))
    rw [List.length_erase_of_mem hx] at h3
    have := List.length_pos_of_mem hx
    rw [List.length_cons]; omega
theorem srt_nodupS {P : List (List Int)} (h : srtD (P.map pr0)) : P.Nodup := by
  unfold srtD at h
  rw [List.pairwise_map] at h
  exact h.imp (fun {a b} hab e => by subst e; have : dls a a = true := hab; rw [dls_irrefl] at this; cases this)
theorem CloD.few {l : List Bl} {R P M : List (List Int)} (h : CloD l R P M) : P.length ≤ l.length := by
  have h1 := nodup_sub (b := l.map (·.d)) (srt_nodupS h.srtP) (fun d hd => by
    obtain ⟨_, x, hx⟩ := (h.memP d).1 hd
    obtain ⟨h1, h2⟩ := fnd_some hx
    exact List.mem_map.2 ⟨x, h1, h2⟩)
  rwa [List.length_map] at h1
set_option maxRecDepth 100000 in
set_option maxHeartbeats 4000000 in
theorem rsweep_any (sp : Option Addr) (n cap : Nat) (l : List Bl) (rp : Option Addr) (rn rc : Nat) (R : List (List Int)) (w : World) (hl : BlsIn w w.heap.size sp n cap l) (hR : DigsIn w w.heap.size rp rn rc R) (hn : n ≤ 300) (hrn : rn ≤ 1000) :
    Calls Tryz.prog 18 #[.slice sp n cap, .slice rp rn rc] w fun e w' => SwpR l R e w' ∧ Below w.heap.size w w' := by
  have HL := Lib.hid hl; have HR := Lib.hid hR
  have HVA := Lib.hid (rvalid_bls sp n cap l w hl (by omega))
  have HPL := Lib.hid (show rn + pot l [] ≤ 80000000 by have h1 := pot_leS [] l; rw [hl.len] at h1; omega)
  clear hl hR
  cases hv : vldP (l.map bp)
  · rw [hv] at HVA
    have HV := Lib.hid hv
    clear hv
    go_enter Tryz.func18, Tryz.ntmps18
    go_wp2_with fail
    refine HVA.out.mono ?_
    rintro e w1 ⟨rfl, b1⟩
    have HB1 := Lib.hid b1; clear b1
    go_wp2_with fail
    go_ret2
    exact ⟨.inl ⟨HV.out, rfl⟩, HB1.out⟩
  rw [hv] at HVA
  have HV := Lib.hid hv
  clear hv
  go_enter Tryz.func18, Tryz.ntmps18
  go_wp2_with fail
  refine HVA.out.mono ?_
  rintro e w1 ⟨rfl, b1⟩
  have HB1 := Lib.hid b1; clear b1 HVA
  go_wp2_with fail
  refine (rclo_any sp n cap l rp rn rc R w1 (HL.out.up HB1.out (Nat.le_refl _)) (HR.out.upD HB1.out HB1.out.size) (by omega) HPL.out).mono ?_
  rintro e wz ⟨⟨gp, np1, cp, gm, nm, cm, P, M, rfl, hcd, hdp, _, _, _⟩, b2⟩
  have HB2 := Lib.hid (HB1.out.trans (b2.mono HB1.out.size))
  have HCD := Lib.hid hcd; have HDP2 := Lib.hid hdp
  have hbp : np1 ≤ 300 := by have h1 := hcd.few; rw [hdp.len, HL.out.len] at h1; omega
  clear hcd hdp b2
  go_wp2_with fail
  go_loopw [8, 9] (fun v8 v24 wr => ∃ (k c cc : Nat) (g : Option Addr), v8 = .slice g c cc ∧ v24 = .int .i64 k ∧ k ≤ n ∧ Hid ((keptL (l.take k) P).length = c ∧ OwnB wr wz.heap.size (.slice g c cc) (keptL (l.take k) P) ∧ Below wz.heap.size wz wr)) (fun _ v24 _ => n - (intOf v24).toNat)
  case atStart => exact ⟨0, 0, 0, none, rfl, rfl, Nat.zero_le _, rfl, OwnB.nil _ _, Below.refl _ _⟩
  case round =>
    obtain ⟨k, c, cc, g, rfl, rfl, hk, H⟩ := hrel
    have HKL := Lib.hid H.out.1.symm; have HO := Lib.hid H.out.2.1; have HBE := Lib.hid H.out.2.2; have HDP := Lib.hid (HDP2.out.upD H.out.2.2 H.out.2.2.size); have HB := Lib.hid (HB2.out.trans (H.out.2.2.mono HB2.out.size))
    have hck : c ≤ 300 := by have h1 := keptL_le (l.take k) P; have h2 := H.out.1; rw [List.length_take] at h1; omega
    clear H
    by_cases hlt : k < n
    · have hd : decide ((k : Int) < (n : Int)) = true := by simp; omega
      obtain ⟨b, off, rfl, hbB, hcap, hr⟩ := HL.out.cells (by omega)
      obtain ⟨x, hx⟩ : ∃ x, l[k]? = some x := ⟨l[k]'(by have := HL.out.len; omega), List.getElem?_eq_getElem _⟩
      have HXM := Lib.hid (List.mem_of_getElem? hx)
      have HX := Lib.hid hx
      have HXR := Lib.hid (range_belowG (hr k x hx) HB.out hbB)
      have HXD := Lib.hid (rngB_d HXR.out)
      have HOX := Lib.hid (HL.out.ok x HXM.out)
      have HIB := Lib.hid (info_b HOX.out)
      have HID := Lib.hid (info_d HOX.out)
      have p1 : (0 : Int) ≤ (k : Int) := by omega
      have p2 : (k : Int) < (n : Int) := by omega
      have HBL := Lib.hid (Nat.lt_of_lt_of_le hbB HB.out.size)
      clear hr hx
      have HBS := Lib.hid (has_anyG gp np1 cp P x.d wr HDP.out HOX.out (by omega))
      by_cases hin : x.d ∈ P
      · rw [decide_eq_true hin] at HBS
        have HKN := Lib.hid (keptL_in HX.out hin)
        clear hin
        go_wp2_with (refine wpList_load_mid rfl 32 _ rfl b (off + k * 33) rfl _ _ HXD.out Tryz.underlying32 rfl HID.out ?_)
        refine HBS.out.mono ?_
        rintro e w3 ⟨rfl, b3⟩
        have HXR3 := Lib.hid (range_belowG HXR.out b3 HBL.out)
        have HB3 := Lib.hid (HBE.out.trans (b3.mono HBE.out.size))
        have HO3 := Lib.hid (HO.out.below b3)
        clear b3 HBS
        go_wp2_with (first
          | (refine wpList_load_mid rfl 51 _ rfl b (off + k * 33) rfl _ _ HXR3.out Tryz.underlying51 rfl HIB.out ?_)
          | (refine wpList_slice_eqG rfl 22 1 [(0, .tmp 36)] rfl [(0, .agg (blL x).toArray)] rfl _ _ (sliceB _ x HOX.out) ?_; have HZ4 := Lib.hid (BlB.new w3 x); have hb4 : Below w3.heap.size w3 (w3.alloc (.cells (blL x).toArray 51)) := (Below.refl w3.heap.size w3).alloc (Nat.le_refl _) _; have HO4 := Lib.hid (HO3.out.below hb4); have HB4 := Lib.hid (HB3.out.trans (hb4.mono HB3.out.size)); clear hb4; generalize World.alloc w3 _ = w4 at *)
          | (at_builtin; refine wpList_append_bl rfl (.tmp 32) (.tmp 37) rfl wz.heap.size _ (keptL (l.take k) P) c HKL.out rfl HO4.out w3.heap.size x rfl HZ4.out HOX.out (by omega) HB4.out.size ?_; intro sp5 cap5 w5 HO5 HB5 HG5))
        have HB6 := Lib.hid (HB4.out.trans HB5.out)
        have HK6 : Hid ((keptL (l.take k) P ++ [x]).length = c + 1) := by show _ = _; rw [List.length_append, ← HKL.out]; rfl
        go_roundw
        case rel => exact ⟨k + 1, c + 1, cap5, sp5, rfl, by go_num, by omega, by rw [HKN.out]; exact ⟨HK6.out, HO5.out, HB6.out⟩⟩
        case measure => simp [intOf]; omega
      · rw [decide_eq_false hin] at HBS
        have HKN := Lib.hid (keptL_out HX.out hin)
        clear hin
        go_wp2_with (refine wpList_load_mid rfl 32 _ rfl b (off + k * 33) rfl _ _ HXD.out Tryz.underlying32 rfl HID.out ?_)
        refine HBS.out.mono ?_
        rintro e w3 ⟨rfl, b3⟩
        have HB3 := Lib.hid (HBE.out.trans (b3.mono HBE.out.size))
        have HO3 := Lib.hid (HO.out.below b3)
        clear b3 HBS
        go_wp2_with fail
        go_roundw
        case rel => exact ⟨k + 1, c, cc, g, rfl, by go_num, by omega, by rw [HKN.out]; exact ⟨HKL.out.symm, HO3.out, HB3.out⟩⟩
        case measure => simp [intOf]; omega
    · have hkn : k = n := by omega
      have hd : decide ((k : Int) < (n : Int)) = false := by simp; omega
      have HT : Hid (l.take k = l) := by show _ = _; rw [hkn]; exact List.take_of_length_le (by rw [HL.out.len]; exact Nat.le_refl _)
      clear hkn
      rw [HT.out] at HKL HO
      go_wp2_with fail
      go_ret2
      exact ⟨.inr ⟨HV.out, P, M, g, c, cc, keptL l P, HCD.out, rfl, HKL.out.symm, rfl, HO.out.bls HKL.out.symm (fun y hy => (HL.out.dat y (keptL_mem hy)).up HB.out (Nat.le_refl _)), HO.out.nilcap⟩, HB.out⟩
end Go.Proofs.YtfehgkpmjnmpeaaGreatDoor
