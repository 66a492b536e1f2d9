/-
  The walk of the statement PatternReturns: it returns true for all strings.
-/
import Derived.Test.YtmafefdchglpbabDoorPatS
namespace Go.Proofs.YtmafefdchglpbabDoor
open Go.RowKit

theorem extract_listS (s : ByteArray) (k : Nat) : (s.extract k s.size).data.toList = s.data.toList.drop k := ext_drop s k
theorem append_listS (a b : ByteArray) : (a ++ b).data.toList = a.data.toList ++ b.data.toList := by rw [ByteArray.data_append, Array.toList_append]
theorem eq_listS {a b : ByteArray} (h : a.data.toList = b.data.toList) : a = b := by apply ByteArray.ext; exact Array.ext' h
theorem hasP_append (p r : ByteArray) : hasP (p ++ r) p = true := by
  unfold hasP; rw [decide_eq_true_iff, append_listS, Lib.size_eq, List.take_left]
theorem rest_append (p r : ByteArray) : (p ++ r).extract p.size (p ++ r).size = r := by
  apply eq_listS; rw [extract_listS, append_listS, Lib.size_eq, List.drop_left]
theorem back_append {s p : ByteArray} (h : hasP s p = true) : p ++ s.extract p.size s.size = s := by
  unfold hasP at h; rw [decide_eq_true_iff] at h
  apply eq_listS; rw [append_listS, extract_listS, ← h, List.take_append_drop]
theorem rel_back {a b s : ByteArray} (h : relOk a b s = true) : relOk b a (relB a b s) = true ∧ relB b a (relB a b s) = s ∧ pathB (relB a b s) = true := by
  rw [relB_ok h]
  unfold relOk at h
  simp only [Bool.and_eq_true] at h
  obtain ⟨h1, h2, h3, h4, h5⟩ := h
  have e : movB b a (movB a b s) = s := by
    show insB a ++ (insB b ++ s.extract (insB a).size s.size).extract (insB b).size (insB b ++ s.extract (insB a).size s.size).size = s
    rw [rest_append]; exact back_append h4
  have h6 : hasP (movB a b s) (insB b) = true := hasP_append _ _
  have ho : relOk b a (movB a b s) = true := by unfold relOk; rw [e, h1, h2, h3, h5, h6]; rfl
  exact ⟨ho, by rw [relB_ok ho, e], h5⟩
set_option maxRecDepth 100000 in
set_option maxHeartbeats 1000000 in
theorem patternReturns_any (a b s : ByteArray) (w : World) :
    Calls Tryd.prog 7 #[.string a, .string b, .string s] w fun e w' => e = .returned (.bool true) ∧ Below w.heap.size w w' := by
  by_cases hs : 500 < s.size
  · have hd : decide ((s.size : Int) > 500) = true := by simp; omega
    go_enter Tryd.func7, Tryd.ntmps7
    go_wp2
    go_ret
    exact ⟨rfl, Below.refl _ _⟩
  have hd : decide ((s.size : Int) > 500) = false := by simp; omega
  by_cases ha : 500 < a.size
  · have hd2 : decide ((a.size : Int) > 500) = true := by simp; omega
    go_enter Tryd.func7, Tryd.ntmps7
    go_wp2
    go_ret
    exact ⟨rfl, Below.refl _ _⟩
  have hd2 : decide ((a.size : Int) > 500) = false := by simp; omega
  by_cases hb : 500 < b.size
  · have hd3 : decide ((b.size : Int) > 500) = true := by simp; omega
    go_enter Tryd.func7, Tryd.ntmps7
    go_wp2
    go_ret
    exact ⟨rfl, Below.refl _ _⟩
  have hd3 : decide ((b.size : Int) > 500) = false := by simp; omega
  have H0 := Lib.hid (fun w => awakeP_any w)
  have H1 := Lib.hid (fun w => Relocate_any a b s w (by omega) (by omega) (by omega))
  cases hok : relOk a b s
  · have hr := relB_no hok
    rw [hok, hr] at H1
    have hemp : (⟨#[]⟩ : ByteArray).toList = [] := by rw [Lib.toList_data]
    clear hok hr
    go_enter Tryd.func7, Tryd.ntmps7
    go_wp2_with fail
    refine (H1.out _).mono ?_
    rintro e w1 ⟨rfl, b1⟩
    go_wp2_with fail
    refine (H0.out _).mono ?_
    rintro e w2 ⟨rfl, b2⟩
    go_wp2_with fail
    go_ret
    exact ⟨rfl, b1.trans (b2.mono b1.size)⟩
  · obtain ⟨h1, h2, h3⟩ := rel_back hok
    have hsz := pathB_size h3
    have H2 := Lib.hid (fun w => Relocate_any b a (relB a b s) w (by omega) (by omega) (by omega))
    have H3 := Lib.hid (fun w => Path_any (relB a b s) w)
    rw [h1, h2] at H2
    rw [h3] at H3
    rw [hok] at H1
    obtain ⟨r, hr⟩ : ∃ r, relB a b s = r := ⟨_, rfl⟩
    rw [hr] at H1 H2 H3
    clear hok h1 h2 h3 hsz hr
    go_enter Tryd.func7, Tryd.ntmps7
    go_wp2_with fail
    refine (H1.out _).mono ?_
    rintro e w1 ⟨rfl, b1⟩
    go_wp2_with fail
    refine (H2.out _).mono ?_
    rintro e w2 ⟨rfl, b2⟩
    have b2 := b1.trans (b2.mono b1.size)
    go_wp2_with fail
    refine (H0.out _).mono ?_
    rintro e w3 ⟨rfl, b3⟩
    have b3 := b2.trans (b3.mono b2.size)
    go_wp2_with fail
    refine (H3.out _).mono ?_
    rintro e w4 ⟨rfl, b4⟩
    have b4 := b3.trans (b4.mono b3.size)
    go_wp2_with fail
    go_ret
    exact ⟨rfl, b4⟩
end Go.Proofs.YtmafefdchglpbabDoor
