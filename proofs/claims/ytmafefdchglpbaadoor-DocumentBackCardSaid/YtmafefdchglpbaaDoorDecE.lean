/-
  The walk of document.Decode: for all bytes.
-/
import Derived.Test.YtmafefdchglpbaaDoorDecD
import Derived.Laws.BytesString
namespace Go.Proofs.YtmafefdchglpbaaDoor
open Go.RowKit

/-- bytes in memory, as a list of bytes -/
structure BSrc (w : World) (B : Nat) (sp : Option Addr) (n cap : Nat) (l : List UInt8) : Prop where
  len : l.length = n
  cells : 0 < n → ∃ bb off, sp = some ⟨bb, off, none⟩ ∧ bb < B ∧ n ≤ cap ∧ ∀ j (hj : j < l.length), w.cell? ⟨bb, off + j, none⟩ = some (.int .u8 (l[j].toNat : Int))
theorem BSrc.below {w w' : World} {B B' : Nat} {sp : Option Addr} {n cap : Nat} {l : List UInt8} (h : BSrc w B sp n cap l) (hb : Below B' w w') (hB : B ≤ B') : BSrc w' B sp n cap l :=
  ⟨h.len, fun hn => by
    obtain ⟨bb, off, e, hlt, hc, hcell⟩ := h.cells hn
    exact ⟨bb, off, e, hlt, hc, fun j hj => (hb.cell (p := ⟨bb, off + j, none⟩) (by show bb < B'; omega)).trans (hcell j hj)⟩⟩
theorem run_conv_src {w : World} {B : Nat} {sp : Option Addr} {n cap c2 : Nat} {l : List UInt8} (h : BSrc w B sp n cap l) : (convert 34 9 (.slice sp n c2)).run Tryd.prog w = .ok (.string ⟨l.toArray⟩) w := by
  by_cases hn : n = 0
  · have hl : l = [] := List.eq_nil_of_length_eq_zero (by rw [h.len]; exact hn)
    subst hn hl
    cases sp with
    | none =>
      rw [run_convert_bytes_string w 34 9 5 none 0 c2 Tryd.underlying34 Tryd.underlying5 Tryd.underlying9]
      rfl
    | some ad => exact run_convert_bytes_back w 34 9 5 ad c2 [] Tryd.underlying34 Tryd.underlying5 Tryd.underlying9 (fun j hj => absurd hj (by simp))
  · obtain ⟨bb, off, rfl, _, _, hc⟩ := h.cells (by omega)
    have := run_convert_bytes_back w 34 9 5 ⟨bb, off, none⟩ c2 l Tryd.underlying34 Tryd.underlying5 Tryd.underlying9 (fun j hj => by rw [Addr.add_mid]; exact hc j hj)
    rwa [h.len] at this
theorem own_le {w : World} {base e : Nat} {sp : Option Addr} {n cap : Nat} {xs : List Value} (h : w.ownsRow base e 1 (.slice sp n cap) n xs) : n ≤ maxLen := by
  obtain ⟨_, ⟨_, h2⟩ | ⟨g, c, u, _, _, _, h3, h4, _⟩⟩ := h
  · subst h2; exact Nat.zero_le _
  · exact Nat.le_trans h3 h4
theorem strs_own {w : World} {base : Nat} {q : Ln} (h : LnOwn w base q) : StrsIn w w.heap.size q.sp q.n q.l := by
  unfold LnOwn at h
  obtain ⟨h0, h1⟩ := h
  rw [List.length_map, Nat.mul_one] at h0
  refine ⟨h0, fun hn => ?_⟩
  rcases h1 with ⟨_, h2⟩ | ⟨g, c, u, e, _, hg, _, _, hs, ht⟩
  · omega
  · injection e with e1 e2 e3
    refine ⟨g, 0, e1, (Array.getElem?_eq_some_iff.1 hg).1, fun j hj => ?_⟩
    rw [cell_of_row w g (0 + j) u _ _ hg, Nat.zero_add]
    have h5 : (u.toList.take (q.n * 1))[j]? = some (.string q.l[j]) := by rw [ht]; simp [hj]
    rw [List.getElem?_take, if_pos (by omega)] at h5
    simpa using h5
theorem lines_own {w : World} {base : Nat} {sp : Option Addr} {cap : Nat} {ls : List Ln} (h : w.ownsRow base 61 1 (.slice sp ls.length cap) ls.length (ls.map Ln.val)) (he : ∀ q ∈ ls, LnOwn w base q) : LinesIn w w.heap.size sp ls.length ls := by
  refine ⟨rfl, fun hn => ?_, fun q hq => strs_own (he q hq)⟩
  obtain ⟨_, ⟨_, h2⟩ | ⟨g, c, u, e, _, hg, _, _, hs, ht⟩⟩ := h
  · omega
  · injection e with e1 e2 e3
    refine ⟨g, 0, e1, (Array.getElem?_eq_some_iff.1 hg).1, fun j hj => ?_⟩
    rw [cell_of_row w g (0 + j) u _ _ hg, Nat.zero_add]
    have h5 : (u.toList.take (ls.length * 1))[j]? = some ls[j].val := by rw [ht]; simp [hj]
    rw [List.getElem?_take, if_pos (by omega)] at h5
    simpa using h5
/-- what Decode returns, as code and lines -/
def decC (S : ByteArray) : Nat × List (List ByteArray) := if 262144 < S.size then (3, []) else match rdoc S with
  | none => (2, [])
  | some L => if chk L = 0 then (0, L) else (2, [])
def DecRes (w : World) (r : Nat × List (List ByteArray)) (e : Ending) (w' : World) : Prop :=
  ∃ (sp : Option Addr) (cap : Nat) (ls : List Ln), wordsOf ls = r.2 ∧ e = .returned (.tuple #[.slice sp ls.length cap, .int .i64 (r.1 : Int)]) ∧ w'.ownsRow w.heap.size 61 1 (.slice sp ls.length cap) ls.length (ls.map Ln.val) ∧ (∀ q ∈ ls, LnOwn w' w.heap.size q) ∧ Below w.heap.size w w'
theorem decRes_no {w : World} {r : Nat × List (List ByteArray)} {c : Nat} {e : Ending} {w' : World} (h : r = (c, [])) (he : e = .returned (.tuple #[.slice none 0 0, .int .i64 (c : Int)])) (hb : Below w.heap.size w w') : DecRes w r e w' := by
  subst h
  exact ⟨none, 0, [], rfl, he, World.ownsRow_nil _ _ _ _, (fun q hq => by cases hq), hb⟩
set_option maxRecDepth 100000 in
set_option maxHeartbeats 1000000 in
theorem Decode_any (sp : Option Addr) (n cap : Nat) (l : List UInt8) (w : World) (hs : BSrc w w.heap.size sp n cap l) :
    Calls Tryd.prog 18 #[.slice sp n cap] w (DecRes w (decC ⟨l.toArray⟩)) := by
  have hlen : (⟨l.toArray⟩ : ByteArray).size = n := by rw [Lib.size_eq]; exact hs.len
  have hcv := run_conv_src (c2 := cap) hs
  obtain ⟨S, hS⟩ : ∃ S : ByteArray, ⟨l.toArray⟩ = S := ⟨_, rfl⟩
  rw [hS] at hlen hcv ⊢
  clear hS hs
  by_cases hbig : 262144 < n
  · have hd : decide ((n : Int) > 262144) = true := by simp; omega
    have HR : Hid (decC S = (3, [])) := by show _ = _; unfold decC; rw [if_pos (by omega)]
    clear hbig hlen hcv
    go_enter Tryd.func18, Tryd.ntmps18
    go_wp2_with fail
    go_ret2
    exact decRes_no HR.out rfl (Below.refl _ _)
  · have hd : decide ((n : Int) > 262144) = false := by simp; omega
    have HRL := Lib.hid (readLines_any S w (by omega))
    have HR0 : Hid (decC S = match rdoc S with | none => (2, []) | some L => if chk L = 0 then (0, L) else (2, [])) := by show _ = _; unfold decC; rw [if_neg (by omega)]
    clear hbig hlen
    cases hr : rdoc S with
    | none =>
      rw [hr] at HRL HR0
      have HR : Hid (decC S = (2, [])) := HR0.out
      have HC : Hid (Calls Tryd.prog 41 #[.string S] w fun e w' => e = .returned (.tuple #[.slice none 0 0, .bool false]) ∧ Below w.heap.size w w') := HRL.out
      clear HRL HR0 hr
      go_enter Tryd.func18, Tryd.ntmps18
      go_wp2_with fail
      refine HC.out.mono ?_
      rintro e w1 ⟨rfl, b1⟩
      go_wp2_with fail
      go_ret2
      exact decRes_no HR.out rfl b1
    | some L =>
      rw [hr] at HRL HR0
      have HR : Hid (decC S = if chk L = 0 then (0, L) else (2, [])) := HR0.out
      have HC : Hid (Calls Tryd.prog 41 #[.string S] w fun e w' => ∃ (sp : Option Addr) (cap : Nat) (ls : List Ln), wordsOf ls = L ∧ e = .returned (.tuple #[.slice sp ls.length cap, .bool true]) ∧ w'.ownsRow w.heap.size 61 1 (.slice sp ls.length cap) ls.length (ls.map Ln.val) ∧ (∀ q ∈ ls, LnOwn w' w.heap.size q) ∧ Below w.heap.size w w') := HRL.out
      clear HRL HR0 hr
      by_cases hk : chk L = 0
      · rw [if_pos hk] at HR
        go_enter Tryd.func18, Tryd.ntmps18
        go_wp2_with fail
        refine HC.out.mono ?_
        rintro e w1 ⟨sp1, cap1, ls, hwo, rfl, o1, he1, b1⟩
        have hck := checkLines_any sp1 ls.length cap1 ls w1 (lines_own o1 he1) (own_le o1) (fun q hq => own_le (he1 q hq))
        rw [hwo, hk] at hck
        have HCK := Lib.hid hck; have HO1 := Lib.hid o1; have HE1 := Lib.hid he1; have HWO := Lib.hid hwo; have HB1 := Lib.hid b1
        clear hck o1 he1 hwo b1 hk
        go_wp2_with fail
        refine HCK.out.mono ?_
        rintro e w2 ⟨rfl, rfl⟩
        go_wp2_with fail
        go_ret2
        rw [HR.out]
        exact ⟨sp1, cap1, ls, HWO.out, rfl, HO1.out, HE1.out, HB1.out⟩
      · rw [if_neg hk] at HR
        obtain ⟨c, hc⟩ : ∃ c, chk L = c := ⟨_, rfl⟩
        rw [hc] at hk
        have hne : ((c : Int) != 0) = true := by rw [bne_iff_ne]; omega
        have HCE := Lib.hid hc
        clear hc
        go_enter Tryd.func18, Tryd.ntmps18
        go_wp2_with fail
        refine HC.out.mono ?_
        rintro e w1 ⟨sp1, cap1, ls, hwo, rfl, o1, he1, b1⟩
        have hck := checkLines_any sp1 ls.length cap1 ls w1 (lines_own o1 he1) (own_le o1) (fun q hq => own_le (he1 q hq))
        rw [hwo, HCE.out] at hck
        have HCK := Lib.hid hck; have HB1 := Lib.hid b1
        clear hck o1 he1 hwo b1
        go_wp2_with fail
        refine HCK.out.mono ?_
        rintro e w2 ⟨rfl, rfl⟩
        go_wp2_with fail
        go_ret2
        exact decRes_no HR.out rfl HB1.out
end Go.Proofs.YtmafefdchglpbaaDoor
