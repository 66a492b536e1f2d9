/-
  The walks of slices.stableCmpFunc and slices.SortStableFunc at api.Blob: what lay there, in order, equals as they stood (at most 1000000000 elements).
-/
import Derived.Test.YtdjknefbaclleaaGreatDoorStlD
import Derived.Test.YtdjknefbaclleaaGreatDoorStbN
namespace Go.Proofs.YtdjknefbaclleaaGreatDoor
open Go.RowKit Go.Lib Go.Sort

set_option maxHeartbeats 16000000 in
set_option maxRecDepth 1000000 in
theorem StlStable {β : Type} [Inhabited β] (enc : β × Nat → List Value) (c : β → β → Int) (hS : SWO (ltOf c)) (g : Nat) (blk off cap : Nat) (d : Array (β × Nat)) (w : World)
    (eg : ∀ args w, (callFunc g args).run Tryz.prog w = .ok (.enter g args) w) (kc : Nat) (aE : ∀ w, (isAgg 50).run Tryz.prog w = .ok true w) (zE : ∀ w, (Go.sizeOf 50).run Tryz.prog w = .ok kc w) (hcmp : CmpLays Tryz.prog g #[] enc kc (fun p q : β × Nat => c p.1 q.1) blk off d.size w)
    (R : RowK enc kc w blk off d) (hsz : d.size ≤ 1000000000) (htag : ∀ k, k < d.size → d[k]!.2 = k) :
    Calls Tryz.prog 100 #[.slice (some ⟨blk, off, none⟩) d.size cap, .int .i64 d.size, .func (.func g) #[] #[]] w fun e w' => e = .returned (.tuple #[]) ∧ ∃ d', d'.size = d.size ∧ PermIn 0 d.size d d' ∧ StO (ltOf c) 0 d.size d' ∧ SWK enc kc w blk off d' w' := by
  have S0 : Aside (SWK enc kc w blk off d w) := SWK.start R.hH
  obtain ⟨n, hn⟩ : ∃ n, d.size = n := ⟨_, rfl⟩
  have HN := Lib.hid hn
  have HINS := Lib.hid (fun (a b : Nat) (dk : Array (β × Nat)) (w1 : World) (h1 : dk.size = n) (S : SWK enc kc w blk off dk w1) (h2 : a ≤ b) (h3 : b ≤ n) (h4 : ∀ i j, a ≤ i → i < j → j < b → dk[i]!.2 < dk[j]!.2) =>
    (show Calls Tryz.prog 113 #[.slice (some ⟨blk, off, none⟩) n cap, .int .i64 a, .int .i64 b, .func (.func g) #[] #[]] w1 fun e w' => e = .returned (.tuple #[]) ∧ ∃ d', d'.size = n ∧ PermIn a b dk d' ∧ StO (ltOf c) a b d' ∧ SWK enc kc w blk off d' w' by
      have := StlInsertion enc (fun p q : β × Nat => c p.1 q.1) g blk off cap a b d dk w w1 eg kc aE zE hcmp R (by rw [hn, h1]) S h2 (by omega) (by omega)
      rw [h1] at this
      refine this.mono fun e w' ⟨he, hS'⟩ => ⟨he, _, ?_, ?_, ?_, hS'⟩
      · exact (ins_st hS h2 (by omega) h4).1.1.trans h1
      · exact (ins_st hS h2 (by omega) h4).1
      · exact (ins_st hS h2 (by omega) h4).2))
  have HSYM := Lib.hid (fun (a m b : Nat) (dk : Array (β × Nat)) (w1 : World) (h1 : dk.size = n) (S : SWK enc kc w blk off dk w1) (h2 : a < m) (h3 : m < b) (h4 : SmPre (ltOf c) a m b dk) =>
    (show Calls Tryz.prog 114 #[.slice (some ⟨blk, off, none⟩) n cap, .int .i64 a, .int .i64 m, .int .i64 b, .func (.func g) #[] #[]] w1 fun e w' => e = .returned (.tuple #[]) ∧ ∃ d', d'.size = n ∧ PermIn a b dk d' ∧ StO (ltOf c) a b d' ∧ SWK enc kc w blk off d' w' by
      have := StlSymMerge enc c hS g blk off cap d w eg kc aE zE hcmp R (by omega) (b - a) a m b dk w1 (Nat.le_refl _) h2 h3 (by rw [hn, h1]) S h4
      rw [h1] at this; exact this))
  have HT := Lib.hid htag
  rw [hn] at hsz ⊢
  clear hcmp htag hn
  go_enter Tryz.func100, Tryz.ntmps100
  go_wp2_with fail
  go_loopg [7, 8] (n / 20 + 1) (fun g1 va vb wr => ∃ (q a b : Nat) (dk : Array (β × Nat)), va = .int .i64 a ∧ vb = .int .i64 b ∧ Hid (20 * q = a ∧ 20 * q + 20 = b) ∧ (a + 20 ≤ b ∧ b ≤ a + 20) ∧ a ≤ n ∧ n / 20 + 1 ≤ g1 + q ∧ Hid (dk.size = n ∧ PermIn 0 n d dk ∧ Ph1 (ltOf c) n q dk) ∧ Aside (SWK enc kc w blk off dk wr))
  case atStart => exact ⟨0, 0, 20, d, rfl, rfl, ⟨rfl, rfl⟩, ⟨Nat.le_refl _, Nat.le_refl _⟩, by omega, by omega, ⟨HN.out, permIn_refl _ _ _, ⟨fun p hp => absurd hp (by omega), fun k _ h2 => HT.out k (by rw [HN.out]; exact h2)⟩⟩, S0⟩
  case round =>
  clear S0
  obtain ⟨q, a, b, dk, rfl, rfl, HAB, hab, hq, hg, H, S1⟩ := hrel
  have HA := Lib.hid HAB.out.1; have HB := Lib.hid HAB.out.2
  have haq := HAB.out.1
  clear HAB
  by_cases hbn : b ≤ n
  · have hd : decide ((b : Int) ≤ (n : Int)) = true := by simp; omega
    have C := Lib.hid (HINS.out a b dk wr H.out.1 S1.out (by omega) hbn (H.out.2.2.asc (by omega) hbn))
    clear haq
    go_wp2_with fail
    refine C.out.mono ?_
    rintro e w2 ⟨rfl, de, h1, h2, h3, S2⟩
    have HE := Lib.hid (And.intro h1 (And.intro h2 h3))
    have S3 : Aside _ := S2
    clear h1 h2 h3 S2 C
    go_wp2_with fail
    have ha := HA.out; have hb := HB.out
    go_roundg (gk - 1)
    case measure => omega
    case rel =>
      have hs := H.out.2.2.step (b := b) H.out.1.symm (.inl hb.symm) (by omega) hbn (by rw [ha]; exact HE.out.2.1) (by rw [ha]; exact HE.out.2.2)
      refine ⟨q + 1, b, b + 20, de, rfl, by go_num, ⟨by omega, by omega⟩, ⟨by omega, by omega⟩, by omega, by omega, ⟨HE.out.1, permIn_trans _ _ _ _ _ H.out.2.1 (permIn_mono _ _ _ _ _ _ (Nat.zero_le _) hbn (by rw [H.out.1]; exact Nat.le_refl _) HE.out.2.1), ⟨hs.1, fun k h1 h2 => hs.2 k (by omega) h2⟩⟩, S3⟩
  · have hd : decide ((b : Int) ≤ (n : Int)) = false := by simp; omega
    have hd2 : ¬ (b : Int) ≤ (n : Int) := by omega
    have C := Lib.hid (HINS.out a n dk wr H.out.1 S1.out hq (Nat.le_refl _) (H.out.2.2.asc (by omega) (Nat.le_refl _)))
    clear haq
    go_wp2_with fail
    refine C.out.mono ?_
    rintro e w2 ⟨rfl, de, h1, h2, h3, S2⟩
    have HE := Lib.hid (show de.size = n ∧ PermIn 0 n d de ∧ Ph2 (ltOf c) n 20 0 de by
      have ha := HA.out; have hb := HB.out
      refine ⟨h1, permIn_trans _ _ _ _ _ H.out.2.1 (permIn_mono _ _ _ _ _ _ (Nat.zero_le _) (Nat.le_refl _) (by rw [H.out.1]; exact Nat.le_refl _) h2), ?_⟩
      have hs := H.out.2.2.step (b := n) H.out.1.symm (.inr rfl) (by omega) (Nat.le_refl _) (by rw [ha]; exact h2) (by rw [ha]; exact h3)
      exact Ph1.fin hs.1 (by omega))
    have S3 : Aside _ := S2
    clear h1 h2 h3 S2 C H S1 HA HB hd hd2 hab hbn hq hg
    go_wp2_with fail
    go_loopg [6] n (fun g2 vs wr => ∃ (s : Nat) (dk : Array (β × Nat)), vs = .int .i64 s ∧ 20 ≤ s ∧ s ≤ 2000000000 ∧ n ≤ g2 + s ∧ Hid (dk.size = n ∧ PermIn 0 n d dk ∧ Ph2 (ltOf c) n s 0 dk) ∧ Aside (SWK enc kc w blk off dk wr))
    case atStart => exact ⟨20, de, rfl, by omega, by omega, by omega, HE.out, S3⟩
    case round =>
    clear S3 HE
    obtain ⟨s, dk, rfl, hs20, hs2, hg2, H, S1⟩ := hrel
    by_cases hsn : s < n
    · have hd : decide ((s : Int) < (n : Int)) = true := by simp; omega
      go_wp2_with fail
      clear hd
      go_loopg [7, 8] n (fun g3 va vb wr => ∃ (p a : Nat) (dk : Array (β × Nat)), va = .int .i64 a ∧ vb = .int .i64 ((a + 2 * s : Nat) : Int) ∧ a ≤ n ∧ n ≤ g3 + a ∧ Hid (a = 2 * s * p ∧ dk.size = n ∧ PermIn 0 n d dk ∧ Ph2 (ltOf c) n s p dk) ∧ Aside (SWK enc kc w blk off dk wr))
      case atStart => exact ⟨0, 0, dk, rfl, by first | rfl | go_num | (congr 1; omega), Nat.zero_le _, Nat.le_refl _, ⟨by rw [Nat.mul_zero], H.out⟩, S1⟩
      case round =>
      clear H S1
      obtain ⟨p, a, dk, rfl, rfl, hq, hg3, H, S1⟩ := hrel
      obtain ⟨b, hb⟩ : ∃ b, a + 2 * s = b := ⟨_, rfl⟩
      rw [hb]
      have hab : a + 2 * s ≤ b ∧ b ≤ a + 2 * s := by omega
      have HB := Lib.hid hb
      clear hb
      have q1 : IntKind.i64.wrap ((a : Int) + (s : Int)) = (((a + s : Nat)) : Int) := by rw [IntKind.wrap_i64]; omega
      have q2 : (a : Int) + (s : Int) = ((a + s : Nat) : Int) := by omega
      by_cases hbn : b ≤ n
      · have hd : decide ((b : Int) ≤ (n : Int)) = true := by simp; omega
        have C := Lib.hid (HSYM.out a (a + s) b dk wr H.out.2.1 S1.out (by omega) (by omega) (by rw [H.out.1]; exact H.out.2.2.2.pre H.out.2.1.symm (by rw [← H.out.1]; omega) hbn (by rw [← H.out.1]; omega)))
        clear q1 q2
        go_wp2_with fail
        refine C.out.mono ?_
        rintro e w2 ⟨rfl, de, h1, h2, h3, S2⟩
        have HE := Lib.hid (show (a + 2 * s = 2 * s * (p + 1)) ∧ de.size = n ∧ PermIn 0 n d de ∧ Ph2 (ltOf c) n s (p + 1) de by
          refine ⟨by rw [H.out.1, Nat.mul_add, Nat.mul_one], h1, permIn_trans _ _ _ _ _ H.out.2.2.1 (permIn_mono _ _ _ _ _ _ (Nat.zero_le _) hbn (by rw [H.out.2.1]; exact Nat.le_refl _) h2), ?_⟩
          rw [H.out.1] at h2 h3
          exact H.out.2.2.2.step H.out.2.1.symm (.inl (by rw [← H.out.1]; omega)) hbn h2 h3)
        have S3 : Aside _ := S2
        clear h1 h2 h3 S2 C
        go_wp2_with fail
        go_roundg (n - b)
        case measure => omega
        case rel =>
          refine ⟨p + 1, b, de, rfl, by first | rfl | go_num | (congr 1; omega), hbn, by omega, ⟨by rw [← HB.out]; exact HE.out.1, HE.out.2⟩, S3⟩
      · have hd : decide ((b : Int) ≤ (n : Int)) = false := by simp; omega
        have hd2 : ¬ (b : Int) ≤ (n : Int) := by omega
        by_cases hmn : a + s < n
        · have hm1 : decide (((a : Int) + (s : Int)) < (n : Int)) = true := by simp; omega
          have C := Lib.hid (HSYM.out a (a + s) n dk wr H.out.2.1 S1.out (by omega) hmn (by rw [H.out.1]; exact H.out.2.2.2.pre H.out.2.1.symm (by rw [← H.out.1]; omega) (Nat.le_refl _) (by rw [← H.out.1]; omega)))
          clear q1 q2
          go_wp2_with fail
          refine C.out.mono ?_
          rintro e w2 ⟨rfl, de, h1, h2, h3, S2⟩
          have HE := Lib.hid (show de.size = n ∧ PermIn 0 n d de ∧ Ph2 (ltOf c) n (2 * s) 0 de by
            refine ⟨h1, permIn_trans _ _ _ _ _ H.out.2.2.1 (permIn_mono _ _ _ _ _ _ (Nat.zero_le _) (Nat.le_refl _) (by rw [H.out.2.1]; exact Nat.le_refl _) h2), ?_⟩
            have e0 := H.out.1
            rw [H.out.1] at h2 h3
            refine (H.out.2.2.2.step H.out.2.1.symm (.inr ⟨rfl, by rw [← e0]; omega⟩) (Nat.le_refl _) h2 h3).next ?_
            rw [Nat.mul_add, Nat.mul_one, ← e0]; omega)
          have S3 : Aside _ := S2
          clear h1 h2 h3 S2 C
          go_wp2_with fail
          go_roundg (n - 2 * s)
          case measure => omega
          case rel => exact ⟨2 * s, de, by first | rfl | go_num | (congr 1; omega), by omega, by omega, by omega, HE.out, S3⟩
        · have hm1 : decide (((a : Int) + (s : Int)) < (n : Int)) = false := by simp; omega
          have hm2 : ¬ ((a : Int) + (s : Int)) < (n : Int) := by omega
          have HE := Lib.hid (show dk.size = n ∧ PermIn 0 n d dk ∧ Ph2 (ltOf c) n (2 * s) 0 dk by
            have e0 := H.out.1
            refine ⟨H.out.2.1, H.out.2.2.1, (H.out.2.2.2.rest (by rw [← e0]; omega)).next ?_⟩
            rw [Nat.mul_add, Nat.mul_one, ← e0]; omega)
          clear q1 q2
          go_wp2_with fail
          go_roundg (n - 2 * s)
          case measure => omega
          case rel => exact ⟨2 * s, dk, by first | rfl | go_num | (congr 1; omega), by omega, by omega, by omega, HE.out, S1⟩
    · have hd : decide ((s : Int) < (n : Int)) = false := by simp; omega
      have hd2 : ¬ (s : Int) < (n : Int) := by omega
      go_wp2_with fail
      go_end0
      exact ⟨rfl, dk, H.out.1, H.out.2.1, H.out.2.2.fin (by omega), S1.out⟩
set_option maxHeartbeats 1000000 in
set_option maxRecDepth 100000 in
theorem StlSortStable {β : Type} [Inhabited β] (enc : β × Nat → List Value) (c : β → β → Int) (hS : SWO (ltOf c)) (g : Nat) (blk off cap : Nat) (d : Array (β × Nat)) (w : World)
    (eg : ∀ args w, (callFunc g args).run Tryz.prog w = .ok (.enter g args) w) (kc : Nat) (aE : ∀ w, (isAgg 50).run Tryz.prog w = .ok true w) (zE : ∀ w, (Go.sizeOf 50).run Tryz.prog w = .ok kc w) (hcmp : CmpLays Tryz.prog g #[] enc kc (fun p q : β × Nat => c p.1 q.1) blk off d.size w)
    (R : RowK enc kc w blk off d) (hsz : d.size ≤ 1000000000) (htag : ∀ k, k < d.size → d[k]!.2 = k) :
    Calls Tryz.prog 75 #[.slice (some ⟨blk, off, none⟩) d.size cap, .func (.func g) #[] #[]] w fun e w' => e = .returned (.tuple #[]) ∧ ∃ d', d'.size = d.size ∧ PermIn 0 d.size d d' ∧ StO (ltOf c) 0 d.size d' ∧ SWK enc kc w blk off d' w' := by
  have C := Lib.hid (StlStable enc c hS g blk off cap d w eg kc aE zE hcmp R hsz htag)
  clear hcmp htag
  go_enter Tryz.func75, Tryz.ntmps75
  go_wp2_with fail
  refine C.out.mono ?_
  rintro e w2 ⟨rfl, h⟩
  have HH := Lib.hid h
  clear h
  go_wp2_with fail
  go_end0
  exact ⟨rfl, HH.out⟩
end Go.Proofs.YtdjknefbaclleaaGreatDoor
