/-
  Digests in their order, stores as lists: plain mathematics; the entry of bytes.Compare at two rows of bytes.
-/
import Derived.Test.YtcligodahogpkaaGreatDoorZip
import Derived.Test.YtcligodahogpkaaGreatDoorGm
import Derived.Lib.Bytealg
import Derived.Lib.BytesEntry
set_option maxRecDepth 100000
set_option maxHeartbeats 8000000
namespace Go.Proofs.YtcligodahogpkaaGreatDoor
open Go.RowKit
def dls : List Int → List Int → Bool
 | [], [] => false
 | [], _ :: _ => true
 | _ :: _, [] => false
 | x :: a, y :: b => if x = y then dls a b else decide (x < y)
theorem mQ : ∀ a : List Int, dls a a = false
 | [] => rfl
 | x :: a => by rw [dls, if_pos rfl]; exact mQ a
theorem gJ : ∀ {a b c : List Int}, dls a b = true → dls b c = true → dls a c = true
 | [], [], c, h, _ => by simp [dls] at h
 | [], _ :: _, [], _, k => by simp [dls] at k
 | [], _ :: _, _ :: _, _, _ => rfl
 | _ :: _, [], _, h, _ => by simp [dls] at h
 | _ :: _, _ :: _, [], _, k => by simp [dls] at k
 | x :: a, y :: b, z :: c, h, k => by
   rw [dls] at h k ⊢
   by_cases h1 : x = y
   ·subst h1
    rw [if_pos rfl] at h
    by_cases h2 : x = z
    ·subst h2
     rw [if_pos rfl] at k ⊢
     exact gJ h k
    ·rw [if_neg h2] at k ⊢; exact k
   ·rw [if_neg h1] at h
    have h1' := of_decide_eq_true h
    by_cases h2 : y = z
    ·subst h2
     rw [if_neg h1]; exact h
    ·rw [if_neg h2] at k
     have k' := of_decide_eq_true k
     rw [if_neg (by omega)]
     exact decide_eq_true (by omega)
theorem DO : ∀ {a b : List Int}, dls a b = false → dls b a = false → a = b
 | [], [], _, _ => rfl
 | [], _ :: _, h, _ => by simp [dls] at h
 | _ :: _, [], _, k => by simp [dls] at k
 | x :: a, y :: b, h, k => by
   rw [dls] at h k
   by_cases h1 : x = y
   ·subst h1
    rw [if_pos rfl] at h k
    rw [DO h k]
   ·rw [if_neg h1] at h
    rw [if_neg (Ne.symm h1)] at k
    have h' := of_decide_eq_false h
    have k' := of_decide_eq_false k
    omega
theorem qV {a b : List Int} (h : dls a b = true) : a ≠ b := fun e => by rw [e, mQ] at h; cases h
theorem GO {a b : List Int} {k : Nat} {x y : Int} (h : dls a b = dls (a.drop k) (b.drop k)) (hx : a[k]? = some x) (hy : b[k]? = some y) :
 (x = y → dls a b = dls (a.drop (k + 1)) (b.drop (k + 1))) ∧ (x ≠ y → dls a b = decide (x < y)) := by
 obtain ⟨h1, rfl⟩ := List.getElem?_eq_some_iff.1 hx
 obtain ⟨h2, rfl⟩ := List.getElem?_eq_some_iff.1 hy
 rw [h, List.drop_eq_getElem_cons h1, List.drop_eq_getElem_cons h2]
 exact ⟨fun e => by rw [dls, if_pos e], fun e => by rw [dls, if_neg e]⟩
theorem sE : ∀ (a b : List Int), (∀ x ∈ a, 0 ≤ x ∧ x < 256) → (∀ x ∈ b, 0 ≤ x ∧ x < 256) → decide (Lib.compareBytes (Lib.bytesOf a) (Lib.bytesOf b) < 0) = dls a b
 | [], [], _, _ => rfl
 | [], _ :: _, _, _ => rfl
 | _ :: _, [], _, _ => rfl
 | x :: a, y :: b, ha, hb => by
   have h1 := ha x (by simp)
   have h2 := hb y (by simp)
   have ih := sE a b (fun z hz => ha z (by simp [hz])) (fun z hz => hb z (by simp [hz]))
   have n1 : (UInt8.ofNat x.toNat).toNat = x.toNat := by simp; omega
   have n2 : (UInt8.ofNat y.toNat).toNat = y.toNat := by simp; omega
   have hlt : ((UInt8.ofNat x.toNat) < (UInt8.ofNat y.toNat)) ↔ x < y := by rw [UInt8.lt_iff_toNat_lt, n1, n2]; omega
   have hgt : ((UInt8.ofNat y.toNat) < (UInt8.ofNat x.toNat)) ↔ y < x := by rw [UInt8.lt_iff_toNat_lt, n1, n2]; omega
   show decide ((if UInt8.ofNat x.toNat < UInt8.ofNat y.toNat then (-1 : Int) else if UInt8.ofNat y.toNat < UInt8.ofNat x.toNat then 1 else Lib.compareBytes (Lib.bytesOf a) (Lib.bytesOf b)) < 0) = _
   rw [dls]
   by_cases c1 : x < y
   ·rw [if_pos (hlt.2 c1), if_neg (by omega)]; simp [c1]
   ·rw [if_neg (fun h => c1 (hlt.1 h))]
    by_cases c2 : y < x
    ·rw [if_pos (hgt.2 c2), if_neg (by omega)]; simp; omega
    ·rw [if_neg (fun h => c2 (hgt.1 h)), if_pos (by omega)]; exact ih
theorem AB : ∀ (a b : List Int), (∀ x ∈ a, 0 ≤ x ∧ x < 256) → (∀ x ∈ b, 0 ≤ x ∧ x < 256) → decide (Lib.compareBytes (Lib.bytesOf a) (Lib.bytesOf b) ≥ 0) = !dls a b := by
 intro a b ha hb
 rw [← sE a b ha hb]
 by_cases h : Lib.compareBytes (Lib.bytesOf a) (Lib.bytesOf b) < 0
 ·rw [decide_eq_true h, decide_eq_false (by omega)]; rfl
 ·rw [decide_eq_false h, decide_eq_true (by omega)]; rfl
theorem oM {P : Program} {w : World} (b1 o1 n1 c1 : Nat) (xs : List Int) (b2 o2 n2 c2 : Nat) (ys : List Int) (hx : xs.length = n1) (hy : ys.length = n2)
 (h1 : ∀ i, i < n1 → w.cell? ⟨b1, o1 + i, none⟩ = some (.int .u8 (xs.getD i 0))) (h2 : ∀ i, i < n2 → w.cell? ⟨b2, o2 + i, none⟩ = some (.int .u8 (ys.getD i 0))) :
 (Extern.BytealgCompare.compare #[.slice (some ⟨b1, o1, none⟩) n1 c1, .slice (some ⟨b2, o2, none⟩) n2 c2]).run P w = .ok (.int .i64 (Lib.compareBytes (Lib.bytesOf xs) (Lib.bytesOf ys))) w := by
 have hl : ∀ (b off n : Nat) (zs : List Int), zs.length = n → (∀ i, i < n → w.cell? ⟨b, off + i, none⟩ = some (.int .u8 (zs.getD i 0))) → (Extern.Bytes.loadBytes ⟨b, off, none⟩ n .empty).run P w = .ok ⟨(Lib.bytesOf zs).toArray⟩ w := by
  intro b off n zs hz hc
  have h := Lib.run_loadBytesX (P := P) w zs ⟨b, off, none⟩ .empty (fun j x hj => by
   have hjl : j < zs.length := (List.getElem?_eq_some_iff.1 hj).1
   rw [Addr.add_mid, hc j (by omega), List.getD_eq_getElem?_getD, hj]; rfl)
  rw [hz] at h
  rw [h]
  congr 1
  apply ByteArray.ext
  show (#[] : Array UInt8) ++ (Lib.bytesOf zs).toArray = (Lib.bytesOf zs).toArray
  simp
 have e1 := hl b1 o1 n1 xs hx h1
 have e2 := hl b2 o2 n2 ys hy h2
 have hs := Lib.run_compareString (P := P) ⟨(Lib.bytesOf xs).toArray⟩ ⟨(Lib.bytesOf ys).toArray⟩ w
 change Sem.run P (do pure (goInt (Extern.BytealgCompare.cmp (← Extern.Bytes.bytesOf (.string ⟨(Lib.bytesOf xs).toArray⟩)) (← Extern.Bytes.bytesOf (.string ⟨(Lib.bytesOf ys).toArray⟩))))) w = _ at hs
 change Sem.run P (do pure (goInt (Extern.BytealgCompare.cmp (← Extern.Bytes.bytesOf (.slice (some ⟨b1, o1, none⟩) n1 c1)) (← Extern.Bytes.bytesOf (.slice (some ⟨b2, o2, none⟩) n2 c2))))) w = _
 simp only [Extern.Bytes.bytesOf, Sem.run_bind, Sem.run_pure, e1, e2, Result.andThen] at hs ⊢
 exact hs
end Go.Proofs.YtcligodahogpkaaGreatDoor
