/-
  The walk of slices.symMergeCmpFunc at api.Blob: two runs become one.
-/
import Derived.Test.YtdjknefbaclleaaGreatDoorStlC
import Derived.Deep.DeepCutAuto
namespace Go.Proofs.YtdjknefbaclleaaGreatDoor
open Go.RowKit Go.Lib Go.Sort

theorem SmPre.congr {β : Type} [Inhabited β] {lt : β → β → Bool} {a m b : Nat} {d e : Array (β × Nat)} (h : SmPre lt a m b d) (ham : a ≤ m) (hs : e.size = d.size) (he : ∀ k, a ≤ k → e[k]! = d[k]!) : SmPre lt a m b e :=
  ⟨fun i j h1 h2 h3 => by rw [he i h1, he j (by omega)]; exact h.l i j h1 h2 h3, fun i j h1 h2 h3 => by rw [he i (by omega), he j (by omega)]; exact h.r i j h1 h2 h3, fun i j h1 h2 h3 h4 => by rw [he i h1, he j (by omega)]; exact h.c i j h1 h2 h3 h4, by rw [hs]; exact h.s⟩
def SymOK {β : Type} [Inhabited β] (enc : β × Nat → List Value) (kc : Nat) (c : β → β → Int) (w0 : World) (blk off a b : Nat) (d : Array (β × Nat)) (e : Ending) (w' : World) : Prop :=
  e = .returned (.tuple #[]) ∧ ∃ d', d'.size = d.size ∧ PermIn a b d d' ∧ StO (ltOf c) a b d' ∧ SWK enc kc w0 blk off d' w'
set_option maxHeartbeats 16000000 in
set_option maxRecDepth 1000000 in
theorem StlSym1 {β : Type} [Inhabited β] (enc : β × Nat → List Value) (c : β → β → Int) (hS : SWO (ltOf c)) (g : Nat) (blk off cap : Nat) (d0 : Array (β × Nat)) (w0 : World)
    (eg : ∀ args w, (callFunc g args).run Tryz.prog w = .ok (.enter g args) w) (kc : Nat) (aE : ∀ w, (isAgg 50).run Tryz.prog w = .ok true w) (zE : ∀ w, (Go.sizeOf 50).run Tryz.prog w = .ok kc w) (hcmp : CmpLays Tryz.prog g #[] enc kc (fun p q : β × Nat => c p.1 q.1) blk off d0.size w0)
    (R : RowK enc kc w0 blk off d0) (hsz : d0.size < 4611686018427387904)
    (a m b : Nat) (d : Array (β × Nat)) (w : World) (ham : a < m) (hmb : m < b) (hs : d0.size = d.size) (S : SWK enc kc w0 blk off d w) (hpre : SmPre (ltOf c) a m b d) (h1 : m = a + 1) :
      Calls Tryz.prog 114 #[.slice (some ⟨blk, off, none⟩) d.size cap, .int .i64 a, .int .i64 m, .int .i64 b, .func (.func g) #[] #[]] w fun e w' => e = .returned (.tuple #[]) ∧ ∃ d', d'.size = d.size ∧ PermIn a b d d' ∧ StO (ltOf c) a b d' ∧ SWK enc kc w0 blk off d' w' := by
  have mixed : Tryz.prog.follows .mixedOrders = true := by kernel_rfl
  have hb := hpre.s
  have HPRE := Lib.hid hpre
  have HC : Aside _ := hcmp
  have S0 : Aside _ := S
  have hs' : d0.size ≤ d.size ∧ d.size ≤ d0.size := by omega
  clear S hs hcmp hpre
  · have HM := Lib.hid h1
    have q1 : IntKind.i64.wrap ((m : Int) - (a : Int)) = 1 := by rw [IntKind.wrap_i64]; omega
    have q2 : (m : Int) - (a : Int) = 1 := by omega
    have k1 : m ≤ a + 1 ∧ a + 1 ≤ m := by omega
    clear h1
    go_enter Tryz.func114, Tryz.ntmps114
    go_wp2_with fail
    clear q1 q2
    go_loopg [10, 11] (b - m) (fun g1 vi vj wr => ∃ (i j : Nat), vi = .int .i64 i ∧ vj = .int .i64 j ∧ m ≤ i ∧ i ≤ j ∧ j ≤ b ∧ j - i ≤ g1 ∧ Hid ((i = a + 1 ∨ ltOf c d[i - 1]!.1 d[a]!.1 = true) ∧ (j = b ∨ ltOf c d[j]!.1 d[a]!.1 = false)) ∧ Aside (SWK enc kc w0 blk off d wr))
    case atStart => exact ⟨m, b, rfl, rfl, Nat.le_refl _, by omega, Nat.le_refl _, Nat.le_refl _, ⟨.inl HM.out, .inl rfl⟩, S0⟩
    case round =>
    clear S0
    obtain ⟨i, j, rfl, rfl, hmi, hij, hjb, hg1, H, S1⟩ := hrel
    by_cases hlt : i < j
    · have hd : decide ((i : Int) < (j : Int)) = true := by simp; omega
      have HV : Aside ((((fun p q : β × Nat => c p.1 q.1) d[(i + j) / 2]! d[a]!) < 0 → ltOf c d[(i + j) / 2]!.1 d[a]!.1 = true) ∧ (¬ ((fun p q : β × Nat => c p.1 q.1) d[(i + j) / 2]! d[a]!) < 0 → ltOf c d[(i + j) / 2]!.1 d[a]!.1 = false)) := ⟨fun h => decide_eq_true h, fun h => decide_eq_false h⟩
      have e1 : ((((i : Nat) : Int) + ((j : Nat) : Int)) / 2).toNat = (i + j) / 2 := by omega
      have p1 : (0 : Int) ≤ (((i : Nat) : Int) + ((j : Nat) : Int)) / 2 := by omega
      have b1 : (((i : Nat) : Int) + ((j : Nat) : Int)) / 2 < (d.size : Int) := by omega
      have r1 : IntKind.i64.wrap ((((i : Nat) : Int) + ((j : Nat) : Int)) / 2) = (((i : Nat) : Int) + ((j : Nat) : Int)) / 2 := by rw [IntKind.wrap_i64]; omega
      have p2 : (0 : Int) ≤ (a : Int) := by omega
      have b2 : (a : Int) < (d.size : Int) := by omega
      have lx1 := fun n os => S1.out.ld R (by omega) Tryz.prog ((i + j) / 2) (by omega) n os
      have lz1 := fun n os => S1.out.ld R (by omega) Tryz.prog (a) (by omega) n os
      have hc1 : ∀ n' os', Calls Tryz.prog g #[.agg (enc d[(i + j) / 2]!).toArray, .agg (enc d[a]!).toArray] (grow ((wr).drewN n') os') fun e w' => e = .returned (.int .i64 ((fun p q : β × Nat => c p.1 q.1) d[(i + j) / 2]! d[a]!)) ∧ ∃ q os'', w' = grow ((grow ((wr).drewN n') os').drewN q) os'' := fun n' os' => by
        have h := S1.out.cmp HC.out (by omega) d[(i + j) / 2]! d[a]! n' os'
        exact h
      generalize enc d[(i + j) / 2]! = cI1 at lx1 hc1
      generalize enc d[a]! = cJ1 at lz1 hc1
      generalize (fun p q : β × Nat => c p.1 q.1) d[(i + j) / 2]! d[a]! = v1 at *
      go_wp2_with fail
      go_quiet_grown (first | (go_at_fn g; refine Calls.grown_of (hc1 _ _)))
      have S2 : Aside (SWK enc kc w0 blk off d (grow ((wr).drewN nq) osq)) := S1.out.grown nq osq
      clear lx1 lz1 hc1 S1
      generalize grow ((wr).drewN nq) osq = w2 at S2 ⊢
      clear nq osq
      by_cases hlv : v1 < 0
      · have hdv : decide (v1 < 0) = true := by simp; omega
        have hdw : decide (0 ≤ v1) = false := by simp; omega
        have hnv : ¬ 0 ≤ v1 := by omega
        have HL := Lib.hid (HV.out.1 (by omega))
        clear HV
        go_wp2_with fail
        go_roundg (j - ((i + j) / 2 + 1))
        case measure => omega
        case rel => exact ⟨(i + j) / 2 + 1, j, by rw [show ((i : Int) + (j : Int)) / 2 + 1 = (((i + j) / 2 + 1 : Nat) : Int) by omega], rfl, by omega, by omega, hjb, Nat.le_refl _, ⟨.inr HL.out, H.out.2⟩, S2⟩
      · have hdv : decide (v1 < 0) = false := by simp; omega
        have hdw : decide (0 ≤ v1) = true := by simp; omega
        have h0v : 0 ≤ v1 := by omega
        have HL := Lib.hid (HV.out.2 (by omega))
        clear HV
        go_wp2_with fail
        go_roundg ((i + j) / 2 - i)
        case measure => omega
        case rel => exact ⟨i, (i + j) / 2, rfl, by rw [show ((i : Int) + (j : Int)) / 2 = (((i + j) / 2 : Nat) : Int) by omega], hmi, by omega, by omega, Nat.le_refl _, ⟨H.out.1, .inr HL.out⟩, S2⟩
    · obtain rfl : i = j := by omega
      have hd : decide ((i : Int) < (i : Int)) = false := by simp
      have q3 : IntKind.i64.wrap ((i : Int) - 1) = (i : Int) - 1 := by rw [IntKind.wrap_i64]; omega
      clear hlt
      go_wp2_with fail
      clear q3
      go_loopg [13] (i - a) (fun g1 vk wr => ∃ (k : Nat) (dk : Array (β × Nat)), vk = .int .i64 k ∧ a ≤ k ∧ k + 1 ≤ i ∧ i - k ≤ g1 ∧ (dk.size ≤ d.size ∧ d.size ≤ dk.size) ∧ Hid (PermIn a b d dk ∧ MvR d dk a (k + 1)) ∧ Aside (SWK enc kc w0 blk off dk wr))
      case atStart => exact ⟨a, d, rfl, Nat.le_refl _, by omega, by omega, ⟨Nat.le_refl _, Nat.le_refl _⟩, ⟨permIn_refl _ _ _, mvR_start d a⟩, S1⟩
      case round =>
      clear S1
      obtain ⟨k, dk, rfl, hak, hki, hg2, hsk, HP, S1⟩ := hrel
      have q3 : IntKind.i64.wrap ((i : Int) - 1) = (i : Int) - 1 := by rw [IntKind.wrap_i64]; omega
      by_cases hlt : k + 1 < i
      · have hd : decide ((k : Int) < (i : Int) - 1) = true := by simp; omega
        have p1 : (0 : Int) ≤ (k : Int) := by omega
        have b1 : (k : Int) < (d.size : Int) := by omega
        have e2 : ((k : Int) + 1).toNat = k + 1 := by omega
        have p2 : (0 : Int) ≤ (k : Int) + 1 := by omega
        have b2 : (k : Int) + 1 < (d.size : Int) := by omega
        have r2 : IntKind.i64.wrap ((k : Int) + 1) = (k : Int) + 1 := by rw [IntKind.wrap_i64]; omega
        have S2 : Aside (SWK enc kc w0 blk off (swp dk (k) (k + 1)) ((wr.drew.setCells blk (off + (k) * kc) (enc dk[k + 1]!)).setCells blk (off + (k + 1) * kc) (enc dk[k]!))) := S1.out.swapped R (k) (k + 1) (by omega) (by omega)
        have l41a := S1.out.ld1 R (by omega) Tryz.prog (k) (by omega)
        have l41b := S1.out.ld1 R (by omega) Tryz.prog (k + 1) (by omega)
        have s41a := S1.out.st1 R (by omega) Tryz.prog (k) (by omega) dk[k + 1]!
        have s41b := S1.out.st2 R (by omega) Tryz.prog (k) (k + 1) (by omega) (by omega) dk[k + 1]! dk[k]!
        have n41a : (enc dk[k]!).length = kc := R.hk _
        have n41b : (enc dk[k + 1]!).length = kc := R.hk _
        generalize enc dk[k]! = cI41 at S2 l41a s41b n41a
        generalize enc dk[k + 1]! = cJ41 at S2 l41b s41a s41b n41b
        clear S1
        go_wp2_with fail
        go_big_region_o
        clear l41a l41b s41a s41b n41a n41b
        generalize (wr.drew.setCells blk (off + (k) * kc) cJ41).setCells blk (off + (k + 1) * kc) cI41 = w3 at S2 ⊢
        have S2z : Aside (SWK enc kc w0 blk off (swp dk (k) (k + 1)) w3) := S2
        clear S2
        go_wp2_with fail
        go_roundg (i - (k + 1))
        case measure => omega
        case rel => exact ⟨k + 1, swp dk k (k + 1), by go_num, by omega, by omega, by omega, by rw [size_swp]; exact hsk, ⟨permIn_trans _ _ _ _ _ HP.out.1 (swp_permIn dk a b k (k + 1) (by omega) (by omega) (by omega) (by omega) (by omega)), mvR_step HP.out.2 (by omega) (by omega)⟩, S2z⟩
      · have hd : decide ((k : Int) < (i : Int) - 1) = false := by simp; omega
        have HKI := Lib.hid (show k + 1 = i by omega)
        clear hlt
        go_wp2_with fail
        refine bodyPost_ret (results_none rfl _ _ _) rfl ?_
        have hpre := HPRE.out
        rw [HM.out] at hpre
        exact ⟨rfl, dk, by omega, HP.out.1, sm_one_left hS hpre (by omega) hjb H.out.1 H.out.2 (by rw [← HKI.out]; exact HP.out.2), S1.out⟩
set_option maxHeartbeats 16000000 in
set_option maxRecDepth 1000000 in
theorem StlSym2 {β : Type} [Inhabited β] (enc : β × Nat → List Value) (c : β → β → Int) (hS : SWO (ltOf c)) (g : Nat) (blk off cap : Nat) (d0 : Array (β × Nat)) (w0 : World)
    (eg : ∀ args w, (callFunc g args).run Tryz.prog w = .ok (.enter g args) w) (kc : Nat) (aE : ∀ w, (isAgg 50).run Tryz.prog w = .ok true w) (zE : ∀ w, (Go.sizeOf 50).run Tryz.prog w = .ok kc w) (hcmp : CmpLays Tryz.prog g #[] enc kc (fun p q : β × Nat => c p.1 q.1) blk off d0.size w0)
    (R : RowK enc kc w0 blk off d0) (hsz : d0.size < 4611686018427387904)
    (a m b : Nat) (d : Array (β × Nat)) (w : World) (ham : a < m) (hmb : m < b) (hs : d0.size = d.size) (S : SWK enc kc w0 blk off d w) (hpre : SmPre (ltOf c) a m b d) (h1 : ¬ m = a + 1) (h2 : b = m + 1) :
      Calls Tryz.prog 114 #[.slice (some ⟨blk, off, none⟩) d.size cap, .int .i64 a, .int .i64 m, .int .i64 b, .func (.func g) #[] #[]] w fun e w' => e = .returned (.tuple #[]) ∧ ∃ d', d'.size = d.size ∧ PermIn a b d d' ∧ StO (ltOf c) a b d' ∧ SWK enc kc w0 blk off d' w' := by
  have mixed : Tryz.prog.follows .mixedOrders = true := by kernel_rfl
  have hb := hpre.s
  have HPRE := Lib.hid hpre
  have HC : Aside _ := hcmp
  have S0 : Aside _ := S
  have hs' : d0.size ≤ d.size ∧ d.size ≤ d0.size := by omega
  clear S hs hcmp hpre
  · have HM := Lib.hid h2
    have q1 : IntKind.i64.wrap ((m : Int) - (a : Int)) = (m : Int) - (a : Int) := by rw [IntKind.wrap_i64]; omega
    have q2 : ((m : Int) - (a : Int) == 1) = false := by rw [beq_eq_false_iff_ne]; omega
    have q3 : IntKind.i64.wrap ((b : Int) - (m : Int)) = 1 := by rw [IntKind.wrap_i64]; omega
    have q4 : (b : Int) - (m : Int) = 1 := by omega
    have k1 : b ≤ m + 1 ∧ m + 1 ≤ b := by omega
    clear h2
    go_enter Tryz.func114, Tryz.ntmps114
    go_wp2_with fail
    clear q1 q2 q3 q4
    go_loopg [14, 15] (m - a) (fun g1 vi vj wr => ∃ (i j : Nat), vi = .int .i64 i ∧ vj = .int .i64 j ∧ a ≤ i ∧ i ≤ j ∧ j ≤ m ∧ j - i ≤ g1 ∧ Hid ((i = a ∨ ltOf c d[m]!.1 d[i - 1]!.1 = false) ∧ (j = m ∨ ltOf c d[m]!.1 d[j]!.1 = true)) ∧ Aside (SWK enc kc w0 blk off d wr))
    case atStart => exact ⟨a, m, rfl, rfl, Nat.le_refl _, by omega, Nat.le_refl _, Nat.le_refl _, ⟨.inl rfl, .inl rfl⟩, S0⟩
    case round =>
    clear S0
    obtain ⟨i, j, rfl, rfl, hmi, hij, hjb, hg1, H, S1⟩ := hrel
    by_cases hlt : i < j
    · have hd : decide ((i : Int) < (j : Int)) = true := by simp; omega
      have HV : Aside ((((fun p q : β × Nat => c p.1 q.1) d[m]! d[(i + j) / 2]!) < 0 → ltOf c d[m]!.1 d[(i + j) / 2]!.1 = true) ∧ (¬ ((fun p q : β × Nat => c p.1 q.1) d[m]! d[(i + j) / 2]!) < 0 → ltOf c d[m]!.1 d[(i + j) / 2]!.1 = false)) := ⟨fun h => decide_eq_true h, fun h => decide_eq_false h⟩
      have e1 : ((((i : Nat) : Int) + ((j : Nat) : Int)) / 2).toNat = (i + j) / 2 := by omega
      have p1 : (0 : Int) ≤ (((i : Nat) : Int) + ((j : Nat) : Int)) / 2 := by omega
      have b1 : (((i : Nat) : Int) + ((j : Nat) : Int)) / 2 < (d.size : Int) := by omega
      have r1 : IntKind.i64.wrap ((((i : Nat) : Int) + ((j : Nat) : Int)) / 2) = (((i : Nat) : Int) + ((j : Nat) : Int)) / 2 := by rw [IntKind.wrap_i64]; omega
      have p2 : (0 : Int) ≤ (m : Int) := by omega
      have b2 : (m : Int) < (d.size : Int) := by omega
      have lx2 := fun n os => S1.out.ld R (by omega) Tryz.prog (m) (by omega) n os
      have lz2 := fun n os => S1.out.ld R (by omega) Tryz.prog ((i + j) / 2) (by omega) n os
      have hc2 : ∀ n' os', Calls Tryz.prog g #[.agg (enc d[m]!).toArray, .agg (enc d[(i + j) / 2]!).toArray] (grow ((wr).drewN n') os') fun e w' => e = .returned (.int .i64 ((fun p q : β × Nat => c p.1 q.1) d[m]! d[(i + j) / 2]!)) ∧ ∃ q os'', w' = grow ((grow ((wr).drewN n') os').drewN q) os'' := fun n' os' => by
        have h := S1.out.cmp HC.out (by omega) d[m]! d[(i + j) / 2]! n' os'
        exact h
      generalize enc d[m]! = cI2 at lx2 hc2
      generalize enc d[(i + j) / 2]! = cJ2 at lz2 hc2
      generalize (fun p q : β × Nat => c p.1 q.1) d[m]! d[(i + j) / 2]! = v2 at *
      by_cases hlv : v2 < 0
      · have hdv : decide (v2 < 0) = true := by simp; omega
        have hdw : decide (0 ≤ v2) = false := by simp; omega
        have hnv : ¬ 0 ≤ v2 := by omega
        have HL := Lib.hid (HV.out.1 (by omega))
        clear HV
        go_wp2_with fail
        go_quiet_grown (first | (go_at_fn g; refine Calls.grown_of (hc2 _ _)))
        have S2 : Aside (SWK enc kc w0 blk off d (grow ((wr).drewN nq) osq)) := S1.out.grown nq osq
        clear lx2 lz2 hc2 S1
        generalize grow ((wr).drewN nq) osq = w2 at S2 ⊢
        clear nq osq
        go_wp2_with fail
        go_roundg ((i + j) / 2 - i)
        case measure => omega
        case rel => exact ⟨i, (i + j) / 2, rfl, by rw [show ((i : Int) + (j : Int)) / 2 = (((i + j) / 2 : Nat) : Int) by omega], hmi, by omega, by omega, Nat.le_refl _, ⟨H.out.1, .inr HL.out⟩, S2⟩
      · have hdv : decide (v2 < 0) = false := by simp; omega
        have hdw : decide (0 ≤ v2) = true := by simp; omega
        have h0v : 0 ≤ v2 := by omega
        have HL := Lib.hid (HV.out.2 (by omega))
        clear HV
        go_wp2_with fail
        go_quiet_grown (first | (go_at_fn g; refine Calls.grown_of (hc2 _ _)))
        have S2 : Aside (SWK enc kc w0 blk off d (grow ((wr).drewN nq) osq)) := S1.out.grown nq osq
        clear lx2 lz2 hc2 S1
        generalize grow ((wr).drewN nq) osq = w2 at S2 ⊢
        clear nq osq
        go_wp2_with fail
        go_roundg (j - ((i + j) / 2 + 1))
        case measure => omega
        case rel => exact ⟨(i + j) / 2 + 1, j, by rw [show ((i : Int) + (j : Int)) / 2 + 1 = (((i + j) / 2 + 1 : Nat) : Int) by omega], rfl, by omega, by omega, hjb, Nat.le_refl _, ⟨.inr HL.out, H.out.2⟩, S2⟩
    · obtain rfl : i = j := by omega
      have hd : decide ((i : Int) < (i : Int)) = false := by simp
      clear hlt
      go_wp2_with fail
      go_loopg [17] (m - i) (fun g1 vk wr => ∃ (k : Nat) (dk : Array (β × Nat)), vk = .int .i64 k ∧ i ≤ k ∧ k ≤ m ∧ k - i ≤ g1 ∧ (dk.size ≤ d.size ∧ d.size ≤ dk.size) ∧ Hid (PermIn a b d dk ∧ MvL d dk m k) ∧ Aside (SWK enc kc w0 blk off dk wr))
      case atStart => exact ⟨m, d, rfl, by omega, Nat.le_refl _, Nat.le_refl _, ⟨Nat.le_refl _, Nat.le_refl _⟩, ⟨permIn_refl _ _ _, mvL_start d m⟩, S1⟩
      case round =>
      clear S1
      obtain ⟨k, dk, rfl, hak, hki, hg2, hsk, HP, S1⟩ := hrel
      by_cases hlt : i < k
      · have hd : decide ((k : Int) > (i : Int)) = true := by simp; omega
        have hd2 : decide ((i : Int) < (k : Int)) = true := by simp; omega
        have HST := Lib.hid (show MvL d (swp dk k (k - 1)) m (k - 1) by
          obtain ⟨kp, rfl⟩ : ∃ kp, k = kp + 1 := ⟨k - 1, by omega⟩
          exact mvL_step HP.out.2 (by omega) (by omega))
        have q9 : (1 : Int) ≤ (k : Int) := by omega
        have p1 : (0 : Int) ≤ (k : Int) := by omega
        have b1 : (k : Int) < (d.size : Int) := by omega
        have e2 : ((k : Int) - 1).toNat = k - 1 := by omega
        have p2 : (0 : Int) ≤ (k : Int) - 1 := by omega
        have b2 : (k : Int) - 1 < (d.size : Int) := by omega
        have r2 : IntKind.i64.wrap ((k : Int) - 1) = (k : Int) - 1 := by rw [IntKind.wrap_i64]; omega
        have S2 : Aside (SWK enc kc w0 blk off (swp dk (k) (k - 1)) ((wr.drew.setCells blk (off + (k) * kc) (enc dk[k - 1]!)).setCells blk (off + (k - 1) * kc) (enc dk[k]!))) := S1.out.swapped R (k) (k - 1) (by omega) (by omega)
        have l42a := S1.out.ld1 R (by omega) Tryz.prog (k) (by omega)
        have l42b := S1.out.ld1 R (by omega) Tryz.prog (k - 1) (by omega)
        have s42a := S1.out.st1 R (by omega) Tryz.prog (k) (by omega) dk[k - 1]!
        have s42b := S1.out.st2 R (by omega) Tryz.prog (k) (k - 1) (by omega) (by omega) dk[k - 1]! dk[k]!
        have n42a : (enc dk[k]!).length = kc := R.hk _
        have n42b : (enc dk[k - 1]!).length = kc := R.hk _
        generalize enc dk[k]! = cI42 at S2 l42a s42b n42a
        generalize enc dk[k - 1]! = cJ42 at S2 l42b s42a s42b n42b
        clear S1
        go_wp2_with fail
        go_big_region_o
        clear l42a l42b s42a s42b n42a n42b
        generalize (wr.drew.setCells blk (off + (k) * kc) cJ42).setCells blk (off + (k - 1) * kc) cI42 = w3 at S2 ⊢
        have S2z : Aside (SWK enc kc w0 blk off (swp dk (k) (k - 1)) w3) := S2
        clear S2
        go_wp2_with fail
        go_roundg (k - 1 - i)
        case measure => omega
        case rel => exact ⟨k - 1, swp dk k (k - 1), by first | go_num | (congr 1; omega), by omega, by omega, by omega, by rw [size_swp]; exact hsk, ⟨permIn_trans _ _ _ _ _ HP.out.1 (swp_permIn dk a b k (k - 1) (by omega) (by omega) (by omega) (by omega) (by omega)), HST.out⟩, S2z⟩
      · have hd : decide ((k : Int) > (i : Int)) = false := by simp; omega
        have hd2 : decide ((i : Int) < (k : Int)) = false := by simp; omega
        have hkp : ¬ (i : Int) < (k : Int) := by omega
        have hkp2 : ¬ i < k := by omega
        have HKI := Lib.hid (show k = i by omega)
        clear hlt
        go_wp2_with fail
        refine bodyPost_ret (results_none rfl _ _ _) rfl ?_
        have hpre := HPRE.out
        rw [HM.out] at hpre
        exact ⟨rfl, dk, by omega, HP.out.1, by rw [HM.out]; exact sm_one_right hS hpre hmi hjb H.out.1 H.out.2 (by rw [← HKI.out]; exact HP.out.2), S1.out⟩
set_option maxHeartbeats 16000000 in
set_option maxRecDepth 1000000 in
theorem StlSym3 {β : Type} [Inhabited β] (enc : β × Nat → List Value) (c : β → β → Int) (hS : SWO (ltOf c)) (g : Nat) (blk off cap : Nat) (d0 : Array (β × Nat)) (w0 : World)
    (eg : ∀ args w, (callFunc g args).run Tryz.prog w = .ok (.enter g args) w) (kc : Nat) (aE : ∀ w, (isAgg 50).run Tryz.prog w = .ok true w) (zE : ∀ w, (Go.sizeOf 50).run Tryz.prog w = .ok kc w) (hcmp : CmpLays Tryz.prog g #[] enc kc (fun p q : β × Nat => c p.1 q.1) blk off d0.size w0)
    (R : RowK enc kc w0 blk off d0) (hsz : d0.size < 4611686018427387904)
    (a m b : Nat) (d : Array (β × Nat)) (w : World) (ham : a < m) (hmb : m < b) (hs : d0.size = d.size) (S : SWK enc kc w0 blk off d w) (hpre : SmPre (ltOf c) a m b d) (h1 : ¬ m = a + 1) (h2 : ¬ b = m + 1) (ih : ∀ (a' m' b' : Nat) (d' : Array (β × Nat)) (w' : World), b' - a' < b - a → a' < m' → m' < b' → d0.size = d'.size → SWK enc kc w0 blk off d' w' → SmPre (ltOf c) a' m' b' d' → Calls Tryz.prog 114 #[.slice (some ⟨blk, off, none⟩) d'.size cap, .int .i64 a', .int .i64 m', .int .i64 b', .func (.func g) #[] #[]] w' fun e w'' => e = .returned (.tuple #[]) ∧ ∃ d'', d''.size = d'.size ∧ PermIn a' b' d' d'' ∧ StO (ltOf c) a' b' d'' ∧ SWK enc kc w0 blk off d'' w'') :
      Calls Tryz.prog 114 #[.slice (some ⟨blk, off, none⟩) d.size cap, .int .i64 a, .int .i64 m, .int .i64 b, .func (.func g) #[] #[]] w fun e w' => e = .returned (.tuple #[]) ∧ ∃ d', d'.size = d.size ∧ PermIn a b d d' ∧ StO (ltOf c) a b d' ∧ SWK enc kc w0 blk off d' w' := by
  have mixed : Tryz.prog.follows .mixedOrders = true := by kernel_rfl
  have IH := Lib.hid (fun (a' m' b' : Nat) (d' : Array (β × Nat)) (w' : World) (h1 : b' - a' < b - a) (h2 : a' < m') (h3 : m' < b') (h4 : d.size = d'.size) (h5 : SWK enc kc w0 blk off d' w') (h6 : SmPre (ltOf c) a' m' b' d') =>
    (show Calls Tryz.prog 114 #[.slice (some ⟨blk, off, none⟩) d.size cap, .int .i64 a', .int .i64 m', .int .i64 b', .func (.func g) #[] #[]] w' fun e w'' => e = .returned (.tuple #[]) ∧ ∃ d'', d''.size = d.size ∧ PermIn a' b' d' d'' ∧ StO (ltOf c) a' b' d'' ∧ SWK enc kc w0 blk off d'' w'' by
      have := ih a' m' b' d' w' h1 h2 h3 (hs.trans h4) h5 h6
      rw [← h4] at this; exact this))
  clear ih
  have hb := hpre.s
  have HPRE := Lib.hid hpre
  have HC : Aside _ := hcmp
  have S0 : Aside _ := S
  have hs' : d0.size ≤ d.size ∧ d.size ≤ d0.size := by omega
  clear S hs hcmp hpre
  · have k1 : a + 2 ≤ m ∧ m + 2 ≤ b := by omega
    have q1 : IntKind.i64.wrap ((m : Int) - (a : Int)) = (m : Int) - (a : Int) := by rw [IntKind.wrap_i64]; omega
    have q2 : ((m : Int) - (a : Int) == 1) = false := by rw [beq_eq_false_iff_ne]; omega
    have q3 : IntKind.i64.wrap ((b : Int) - (m : Int)) = (b : Int) - (m : Int) := by rw [IntKind.wrap_i64]; omega
    have q4 : ((b : Int) - (m : Int) == 1) = false := by rw [beq_eq_false_iff_ne]; omega
    clear h1 h2
    obtain ⟨mid, hm1, hm2⟩ : ∃ mid : Nat, 2 * mid ≤ a + b ∧ a + b ≤ 2 * mid + 1 := ⟨(a + b) / 2, by omega, by omega⟩
    have q5 : ((a : Int) + (b : Int)) / 2 = (mid : Int) := by omega
    go_enter Tryz.func114, Tryz.ntmps114
    go_upto_if 140 with fail
    clear q1 q2 q3 q4 q5
    go_cut [20, 21] (fun s20 s21 wx => ∃ lo hi : Nat, s20 = .int .i64 lo ∧ s21 = .int .i64 hi ∧ lo ≤ hi ∧ a ≤ lo ∧ hi ≤ m ∧ hi ≤ mid ∧ mid + m ≤ b + lo ∧ Hid ((lo = a ∨ mid + m = b + lo) ∧ (hi = m ∨ hi = mid)) ∧ Hid ((mid < m ∧ lo + b = mid + m ∧ hi = mid) ∨ (m ≤ mid ∧ lo = a ∧ hi = m)) ∧ wx = w)
    case first =>
      as_aux_lemma =>
        by_cases hmm : mid < m
        · have d1 : decide ((m : Int) > (mid : Int)) = true := by simp; omega
          have d2 : decide ((mid : Int) < (m : Int)) = true := by simp; omega
          go_wp2_with fail
          go_meet
          exact ⟨mid + m - b, mid, by congr 1; omega, rfl, by omega, by omega, by omega, Nat.le_refl _, by omega, (show _ from ⟨.inr (by omega), .inr rfl⟩), (show _ from .inl ⟨hmm, by omega, rfl⟩), rfl⟩
        · have d1 : decide ((m : Int) > (mid : Int)) = false := by simp; omega
          have d2 : decide ((mid : Int) < (m : Int)) = false := by simp; omega
          have d3 : ¬ (mid : Int) < (m : Int) := by omega
          go_wp2_with fail
          go_meet
          exact ⟨a, m, rfl, rfl, by omega, Nat.le_refl _, Nat.le_refl _, by omega, by omega, (show _ from ⟨.inl rfl, .inl rfl⟩), (show _ from .inr ⟨by omega, rfl, rfl⟩), rfl⟩
    case rest =>
    obtain ⟨lo, hi, rfl, rfl, l1, l2, l3, l6, l7, LL, L8, hwc⟩ := hcut
    subst hwc
    have L4 := Lib.hid LL.out.1; have L5 := Lib.hid LL.out.2
    clear LL
    go_wp2_with fail
    go_loopg [20, 21] (hi - lo) (fun g1 vs vr wr => ∃ (s r : Nat), vs = .int .i64 s ∧ vr = .int .i64 r ∧ lo ≤ s ∧ s ≤ r ∧ r ≤ hi ∧ r - s ≤ g1 ∧ Hid ((s = lo ∨ ltOf c d[mid + m - s]!.1 d[s - 1]!.1 = false) ∧ (r = hi ∨ ltOf c d[mid + m - r - 1]!.1 d[r]!.1 = true)) ∧ Aside (SWK enc kc w0 blk off d wr))
    case atStart => exact ⟨lo, hi, by first | rfl | (congr 1; omega), by first | rfl | (congr 1; omega), Nat.le_refl _, by omega, Nat.le_refl _, Nat.le_refl _, ⟨.inl rfl, .inl rfl⟩, S0⟩
    case round =>
    clear S0
    obtain ⟨s, r, rfl, rfl, hls, hsr, hrh, hg1, H, S1⟩ := hrel
    by_cases hlt : s < r
    · as_aux_lemma =>
      have hd : decide ((s : Int) < (r : Int)) = true := by simp; omega
      obtain ⟨ch, hch⟩ : ∃ ch : Nat, ch = (s + r) / 2 := ⟨_, rfl⟩
      obtain ⟨ph, hph⟩ : ∃ ph : Nat, ph = mid + m - 1 - ch := ⟨_, rfl⟩
      have hx : ph < d.size ∧ ch < d.size ∧ ch + 1 ≤ mid + m ∧ s ≤ ch ∧ ch < r ∧ ph + ch + 1 ≤ mid + m ∧ mid + m ≤ ph + ch + 1 := by have := L8.out; omega
      have HV : Aside ((((fun p q : β × Nat => c p.1 q.1) d[ph]! d[ch]!) < 0 → ltOf c d[ph]!.1 d[ch]!.1 = true) ∧ (¬ ((fun p q : β × Nat => c p.1 q.1) d[ph]! d[ch]!) < 0 → ltOf c d[ph]!.1 d[ch]!.1 = false)) := ⟨fun h => decide_eq_true h, fun h => decide_eq_false h⟩
      have y1 : ((s : Int) + (r : Int)) / 2 = (ch : Int) := by omega
      have y2 : (mid : Int) + (m : Int) - 1 - (ch : Int) = (ph : Int) := by omega
      have y3 : IntKind.i64.wrap (ph : Int) = (ph : Int) := by rw [IntKind.wrap_i64]; omega
      have y4 : IntKind.i64.wrap (ch : Int) = (ch : Int) := by rw [IntKind.wrap_i64]; omega
      have y5 : (0 : Int) ≤ (ph : Int) := by omega
      have y6 : (ph : Int) < (d.size : Int) := by omega
      have y7 : (0 : Int) ≤ (ch : Int) := by omega
      have y8 : (ch : Int) < (d.size : Int) := by omega
      clear hch hph
      have lx3 := fun n os => S1.out.ld R (by omega) Tryz.prog (ph) (by omega) n os
      have lz3 := fun n os => S1.out.ld R (by omega) Tryz.prog (ch) (by omega) n os
      have hc3 : ∀ n' os', Calls Tryz.prog g #[.agg (enc d[ph]!).toArray, .agg (enc d[ch]!).toArray] (grow ((wr).drewN n') os') fun e w' => e = .returned (.int .i64 ((fun p q : β × Nat => c p.1 q.1) d[ph]! d[ch]!)) ∧ ∃ q os'', w' = grow ((grow ((wr).drewN n') os').drewN q) os'' := fun n' os' => by
        have h := S1.out.cmp HC.out (by omega) d[ph]! d[ch]! n' os'
        exact h
      generalize enc d[ph]! = cI3 at lx3 hc3
      generalize enc d[ch]! = cJ3 at lz3 hc3
      generalize (fun p q : β × Nat => c p.1 q.1) d[ph]! d[ch]! = v3 at *
      by_cases hlv : v3 < 0
      · have hdv : decide (v3 < 0) = true := by simp; omega
        have hdw : decide (0 ≤ v3) = false := by simp; omega
        have hnv : ¬ 0 ≤ v3 := by omega
        have HL := Lib.hid (HV.out.1 (by omega))
        clear HV
        go_wp2_with fail
        go_quiet_grown (first | (go_at_fn g; refine Calls.grown_of (hc3 _ _)))
        have S2 : Aside (SWK enc kc w0 blk off d (grow ((wr).drewN nq) osq)) := S1.out.grown nq osq
        clear lx3 lz3 hc3 S1
        generalize grow ((wr).drewN nq) osq = w2 at S2 ⊢
        clear nq osq
        go_wp2_with fail
        skip
        go_roundg (ch - s)
        case measure => omega
        case rel => exact ⟨s, ch, rfl, rfl, hls, by omega, by omega, Nat.le_refl _, ⟨H.out.1, .inr (by rw [show mid + m - ch - 1 = ph by omega]; exact HL.out)⟩, S2⟩
      · have hdv : decide (v3 < 0) = false := by simp; omega
        have hdw : decide (0 ≤ v3) = true := by simp; omega
        have h0v : 0 ≤ v3 := by omega
        have HL := Lib.hid (HV.out.2 (by omega))
        clear HV
        go_wp2_with fail
        go_quiet_grown (first | (go_at_fn g; refine Calls.grown_of (hc3 _ _)))
        have S2 : Aside (SWK enc kc w0 blk off d (grow ((wr).drewN nq) osq)) := S1.out.grown nq osq
        clear lx3 lz3 hc3 S1
        generalize grow ((wr).drewN nq) osq = w2 at S2 ⊢
        clear nq osq
        go_wp2_with fail
        skip
        go_roundg (r - (ch + 1))
        case measure => omega
        case rel => exact ⟨ch + 1, r, by go_num, rfl, by omega, by omega, hrh, Nat.le_refl _, ⟨.inr (by rw [show mid + m - (ch + 1) = ph by omega, show ch + 1 - 1 = ch by omega]; exact HL.out), H.out.2⟩, S2⟩
    · obtain rfl : s = r := by omega
      have hd : decide ((s : Int) < (s : Int)) = false := by simp
      clear hlt
      have hl8 := L8.out
      obtain ⟨t, ht⟩ : ∃ t : Nat, t + s = mid + m := ⟨mid + m - s, by omega⟩
      have ht1 : m ≤ t ∧ t ≤ b ∧ mid + m ≤ t + s ∧ t + s ≤ mid + m ∧ s ≤ mid ∧ s ≤ m ∧ a ≤ s := by omega
      have HK := Lib.hid (show (s = a ∨ t = b ∨ ltOf c d[t]!.1 d[s - 1]!.1 = false) ∧ (s = m ∨ t = m ∨ ltOf c d[t - 1]!.1 d[s]!.1 = true) by
        have h := H.out
        rw [show mid + m - s = t by omega] at h
        refine ⟨?_, ?_⟩
        · rcases h.1 with h1 | h1
          · rcases L4.out with h2 | h2
            · exact .inl (h1.trans h2)
            · exact .inr (.inl (by omega))
          · exact .inr (.inr h1)
        · rcases h.2 with h1 | h1
          · rcases L5.out with h2 | h2
            · exact .inl (h1.trans h2)
            · exact .inr (.inl (by omega))
          · exact .inr (.inr h1))
      have qt : (mid : Int) + (m : Int) - (s : Int) = (t : Int) := by omega
      clear hl8 ht
      go_upto_region 39 with fail
      go_cut [185] (fun s185 wx => s185 = .bool (decide (s < m) && decide (m < t)) ∧ wx = wr)
      case first =>
        as_aux_lemma =>
          rcases (by omega : (s < m ∧ m < t) ∨ (¬ s < m) ∨ (s < m ∧ ¬ m < t)) with ⟨hr1, hr2⟩ | hr1 | ⟨hr1, hr2⟩
          · have ob1 : decide ((s : Int) < (m : Int)) = true := by simp; omega
            have ob2 : decide ((m : Int) < (t : Int)) = true := by simp; omega
            go_wp2_with fail
            go_meet
            exact ⟨by simp [hr1, hr2], rfl⟩
          · have ob1 : decide ((s : Int) < (m : Int)) = false := by simp; omega
            have ob3 : ¬ (s : Int) < (m : Int) := by omega
            go_wp2_with fail
            go_meet
            exact ⟨by simp [hr1], rfl⟩
          · have ob1 : decide ((s : Int) < (m : Int)) = true := by simp; omega
            have ob2 : decide ((m : Int) < (t : Int)) = false := by simp; omega
            have ob3 : ¬ (m : Int) < (t : Int) := by omega
            go_wp2_with fail
            go_meet
            exact ⟨by simp [hr1, hr2], rfl⟩
      case rest =>
      obtain ⟨h185, hwc⟩ := hcut
      subst hwc
      have H185 : Aside _ := h185
      clear h185
      go_upto_if 185 with fail
      go_cut [] (fun wx => ∃ de : Array (β × Nat), Hid (d.size = de.size ∧ PermIn a b d de ∧ SmPre (ltOf c) a s mid de ∧ SmPre (ltOf c) mid t b de ∧ (∀ x y, a ≤ x → x < mid → mid ≤ y → y < b → tl (ltOf c) de[x]! de[y]! = true)) ∧ Aside (SWK enc kc w0 blk off de wx))
      case first =>
        as_aux_lemma =>
          by_cases hrot : s < m ∧ m < t
          · obtain ⟨hr1, hr2⟩ := hrot
            obtain rfl : u185 = .bool true := by rw [H185.out]; simp [hr1, hr2]
            have CO := Lib.hid (show Calls Tryz.prog 127 #[.slice (some ⟨blk, off, none⟩) d.size cap, .int .i64 s, .int .i64 m, .int .i64 t, .func (.func g) #[] #[]] wc fun e w' => e = .returned (.tuple #[]) ∧ ∃ d', d'.size = d.size ∧ PermIn s t d d' ∧ Rot d d' s m t ∧ SWK enc kc w0 blk off d' w' from StlRotate enc blk off cap s m t d0 d w0 wc _ kc aE zE R (by omega) S1.out hr1 hr2 (by omega) (by omega))
            go_wp2_with fail
            refine CO.out.mono ?_
            rintro e w3 ⟨rfl, de, he1, he2', he3, S3⟩
            have HE := Lib.hid (show d.size = de.size ∧ PermIn a b d de ∧ SmPre (ltOf c) a s mid de ∧ SmPre (ltOf c) mid t b de ∧ (∀ x y, a ≤ x → x < mid → mid ≤ y → y < b → tl (ltOf c) de[x]! de[y]! = true) from ⟨he1.symm, permIn_mono _ _ _ _ _ _ (by omega) (by omega) (by omega) he2', sm_rot hS HPRE.out (by omega) (by omega) (by omega) (by omega) (by omega) HK.out.1 HK.out.2 he3 he1⟩)
            have S3' : Aside _ := S3
            clear he1 he2' he3 S3 CO
            go_wp2_with fail
            go_meet
            exact ⟨de, HE, S3'⟩
          · obtain rfl : u185 = .bool false := by rw [H185.out]; simp only [Value.bool.injEq]; simpa using hrot
            have HE := Lib.hid (show d.size = d.size ∧ PermIn a b d d ∧ SmPre (ltOf c) a s mid d ∧ SmPre (ltOf c) mid t b d ∧ (∀ x y, a ≤ x → x < mid → mid ≤ y → y < b → tl (ltOf c) d[x]! d[y]! = true) from ⟨rfl, permIn_refl _ _ _, sm_rot hS HPRE.out (by omega) (by omega) (by omega) (by omega) (by omega) HK.out.1 HK.out.2 (rot_triv d (by omega) (by omega) (by omega)) rfl⟩)
            clear hrot
            go_wp2_with fail
            go_meet
            exact ⟨d, (show Hid _ from ⟨rfl, HE.out.2⟩), S1⟩
      case rest =>
      clear S1
      obtain ⟨de, HE, S1⟩ := hcut
      go_upto_region 41 with fail
      go_cut [199] (fun s199 wx => s199 = .bool (decide (a < s) && decide (s < mid)) ∧ wx = wc)
      case first =>
        as_aux_lemma =>
          rcases (by omega : (a < s ∧ s < mid) ∨ (¬ a < s) ∨ (a < s ∧ ¬ s < mid)) with ⟨hr1, hr2⟩ | hr1 | ⟨hr1, hr2⟩
          · have ob1 : decide ((a : Int) < (s : Int)) = true := by simp; omega
            have ob2 : decide ((s : Int) < (mid : Int)) = true := by simp; omega
            go_wp2_with fail
            go_meet
            exact ⟨by simp [hr1, hr2], rfl⟩
          · have ob1 : decide ((a : Int) < (s : Int)) = false := by simp; omega
            have ob3 : ¬ (a : Int) < (s : Int) := by omega
            go_wp2_with fail
            go_meet
            exact ⟨by simp [hr1], rfl⟩
          · have ob1 : decide ((a : Int) < (s : Int)) = true := by simp; omega
            have ob2 : decide ((s : Int) < (mid : Int)) = false := by simp; omega
            have ob3 : ¬ (s : Int) < (mid : Int) := by omega
            go_wp2_with fail
            go_meet
            exact ⟨by simp [hr1, hr2], rfl⟩
      case rest =>
      obtain ⟨h199, hwc⟩ := hcut
      subst hwc
      have H199 : Aside _ := h199
      clear h199
      go_upto_if 199 with fail
      go_cut [] (fun wx => ∃ df : Array (β × Nat), Hid (d.size = df.size ∧ PermIn a b d df ∧ SmPre (ltOf c) mid t b df ∧ (∀ g, PermIn mid b df g → StO (ltOf c) mid b g → StO (ltOf c) a b g)) ∧ Aside (SWK enc kc w0 blk off df wx))
      case first =>
        as_aux_lemma =>
          by_cases hrot : a < s ∧ s < mid
          · obtain ⟨hr1, hr2⟩ := hrot
            obtain rfl : u199 = .bool true := by rw [H199.out]; simp [hr1, hr2]
            have CL := Lib.hid (IH.out a s mid de wc (by omega) (by omega) (by omega) HE.out.1 S1.out HE.out.2.2.1)
            go_wp2_with fail
            refine CL.out.mono ?_
            rintro e w4 ⟨rfl, df, hf1, hf2, hf3, S4⟩
            have HF := Lib.hid (show d.size = df.size ∧ PermIn a b d df ∧ SmPre (ltOf c) mid t b df ∧ (∀ g, PermIn mid b df g → StO (ltOf c) mid b g → StO (ltOf c) a b g) from ⟨hf1.symm, permIn_trans _ _ _ _ _ HE.out.2.1 (permIn_mono _ _ _ _ _ _ (Nat.le_refl _) (by omega) (by rw [← HE.out.1]; omega) hf2), HE.out.2.2.2.1.congr (by omega) (by rw [hf1, HE.out.1]) (fun k hk => hf2.2.1 k (.inr hk)), fun g p2 s2 => sm_join (by rw [← HE.out.1]; omega) (by omega) HE.out.2.2.2.2 hf2 hf3 p2 s2⟩)
            have S4' : Aside _ := S4
            clear hf1 hf2 hf3 S4 CL
            go_wp2_with fail
            go_meet
            exact ⟨df, HF, S4'⟩
          · obtain rfl : u199 = .bool false := by rw [H199.out]; simp only [Value.bool.injEq]; simpa using hrot
            have HF := Lib.hid (show d.size = de.size ∧ PermIn a b d de ∧ SmPre (ltOf c) mid t b de ∧ (∀ g, PermIn mid b de g → StO (ltOf c) mid b g → StO (ltOf c) a b g) from ⟨HE.out.1, HE.out.2.1, HE.out.2.2.2.1, fun g p2 s2 => sm_join (by rw [← HE.out.1]; omega) (by omega) HE.out.2.2.2.2 (permIn_refl de a mid) (sm_skip HE.out.2.2.1 hrot) p2 s2⟩)
            clear hrot
            go_wp2_with fail
            go_meet
            exact ⟨de, HF, S1⟩
      case rest =>
      clear S1 HE
      obtain ⟨df, HF, S1⟩ := hcut
      go_upto_region 43 with fail
      go_cut [213] (fun s213 wx => s213 = .bool (decide (mid < t) && decide (t < b)) ∧ wx = wc)
      case first =>
        as_aux_lemma =>
          rcases (by omega : (mid < t ∧ t < b) ∨ (¬ mid < t) ∨ (mid < t ∧ ¬ t < b)) with ⟨hr1, hr2⟩ | hr1 | ⟨hr1, hr2⟩
          · have ob1 : decide ((mid : Int) < (t : Int)) = true := by simp; omega
            have ob2 : decide ((t : Int) < (b : Int)) = true := by simp; omega
            go_wp2_with fail
            go_meet
            exact ⟨by simp [hr1, hr2], rfl⟩
          · have ob1 : decide ((mid : Int) < (t : Int)) = false := by simp; omega
            have ob3 : ¬ (mid : Int) < (t : Int) := by omega
            go_wp2_with fail
            go_meet
            exact ⟨by simp [hr1], rfl⟩
          · have ob1 : decide ((mid : Int) < (t : Int)) = true := by simp; omega
            have ob2 : decide ((t : Int) < (b : Int)) = false := by simp; omega
            have ob3 : ¬ (t : Int) < (b : Int) := by omega
            go_wp2_with fail
            go_meet
            exact ⟨by simp [hr1, hr2], rfl⟩
      case rest =>
      obtain ⟨h213, hwc⟩ := hcut
      subst hwc
      have H213 : Aside _ := h213
      clear h213
      as_aux_lemma =>
      by_cases hrot : mid < t ∧ t < b
      · obtain ⟨hr1, hr2⟩ := hrot
        obtain rfl : u213 = .bool true := by rw [H213.out]; simp [hr1, hr2]
        have CR := Lib.hid (IH.out mid t b df wc (by omega) (by omega) (by omega) HF.out.1 S1.out HF.out.2.2.1)
        go_wp2_with fail
        refine CR.out.mono ?_
        rintro e w5 ⟨rfl, dg, hg1, hg2, hg3, S5⟩
        have HGG := Lib.hid (And.intro hg1 (And.intro hg2 hg3))
        have S6 : Aside _ := S5
        clear hg1 hg2 hg3 S5 CR
        go_wp2_with fail
        go_end0
        exact ⟨rfl, dg, HGG.out.1, permIn_trans _ _ _ _ _ HF.out.2.1 (permIn_mono _ _ _ _ _ _ (by omega) (Nat.le_refl _) (by rw [← HF.out.1]; omega) HGG.out.2.1), HF.out.2.2.2 dg HGG.out.2.1 HGG.out.2.2, S6.out⟩
      · obtain rfl : u213 = .bool false := by rw [H213.out]; simp only [Value.bool.injEq]; simpa using hrot
        have HN := Lib.hid hrot
        clear hrot
        go_wp2_with fail
        go_end0
        exact ⟨rfl, df, HF.out.1.symm, HF.out.2.1, HF.out.2.2.2 df (permIn_refl _ _ _) (sm_skip HF.out.2.2.1 HN.out), S1.out⟩
theorem StlSymMerge {β : Type} [Inhabited β] (enc : β × Nat → List Value) (c : β → β → Int) (hS : SWO (ltOf c)) (g : Nat) (blk off cap : Nat) (d0 : Array (β × Nat)) (w0 : World)
    (eg : ∀ args w, (callFunc g args).run Tryz.prog w = .ok (.enter g args) w) (kc : Nat) (aE : ∀ w, (isAgg 50).run Tryz.prog w = .ok true w) (zE : ∀ w, (Go.sizeOf 50).run Tryz.prog w = .ok kc w) (hcmp : CmpLays Tryz.prog g #[] enc kc (fun p q : β × Nat => c p.1 q.1) blk off d0.size w0)
    (R : RowK enc kc w0 blk off d0) (hsz : d0.size < 4611686018427387904) :
    ∀ (N a m b : Nat) (d : Array (β × Nat)) (w : World), b - a ≤ N → a < m → m < b → d0.size = d.size → SWK enc kc w0 blk off d w → SmPre (ltOf c) a m b d →
      Calls Tryz.prog 114 #[.slice (some ⟨blk, off, none⟩) d.size cap, .int .i64 a, .int .i64 m, .int .i64 b, .func (.func g) #[] #[]] w fun e w' => e = .returned (.tuple #[]) ∧ ∃ d', d'.size = d.size ∧ PermIn a b d d' ∧ StO (ltOf c) a b d' ∧ SWK enc kc w0 blk off d' w' := by
  intro N
  induction N with
  | zero => intro a m b d w h1 h2 h3; omega
  | succ N ih =>
    intro a m b d w hN ham hmb hs S hpre
    by_cases h1 : m = a + 1
    · exact StlSym1 enc c hS g blk off cap d0 w0 eg kc aE zE hcmp R hsz a m b d w ham hmb hs S hpre h1
    · by_cases h2 : b = m + 1
      · exact StlSym2 enc c hS g blk off cap d0 w0 eg kc aE zE hcmp R hsz a m b d w ham hmb hs S hpre h1 h2
      · exact StlSym3 enc c hS g blk off cap d0 w0 eg kc aE zE hcmp R hsz a m b d w ham hmb hs S hpre h1 h2 (fun a' m' b' d' w' k1 k2 k3 k4 k5 k6 => ih a' m' b' d' w' (by omega) k2 k3 k4 k5 k6)
end Go.Proofs.YtdjknefbaclleaaGreatDoor
