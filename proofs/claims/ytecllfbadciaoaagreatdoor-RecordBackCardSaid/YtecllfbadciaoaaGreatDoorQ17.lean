/-
  The walk of document.Decode: for all bytes.
-/
import Derived.Test.YtecllfbadciaoaaGreatDoorZip
import Derived.Test.YtecllfbadciaoaaGreatDoorQ16
import Derived.Laws.BytesString
import Derived.Test.YtecllfbadciaoaaGreatDoorQ14
set_option maxRecDepth 100000
set_option maxHeartbeats 8000000
namespace Go.Proofs.YtecllfbadciaoaaGreatDoor
open Go.RowKit
structure BSrc (w : World) (B : Nat) (sp : Option Addr) (n cap : Nat) (l : List UInt8) : Prop where
 len : l.length = n
 cells : 0 < n → ∃ bb off, sp = some ⟨bb, off, none⟩ ∧ bb < B ∧ n ≤ cap ∧ ∀ j (hj : j < l.length), w.cell? ⟨bb, off + j, none⟩ = some (.int .u8 (l[j].toNat : Int))
theorem BSrc.below {w w' : World} {B B' : Nat} {sp : Option Addr} {n cap : Nat} {l : List UInt8} (h : BSrc w B sp n cap l) (hb : Below B' w w') (hB : B ≤ B') : BSrc w' B sp n cap l :=
 ⟨h.len, fun hn => by
  obtain ⟨bb, off, e, hlt, hc, hcell⟩ := h.cells hn
  exact ⟨bb, off, e, hlt, hc, fun j hj => (hb.cell (p := ⟨bb, off + j, none⟩) (by show bb < B'; omega)).trans (hcell j hj)⟩⟩
theorem run_conv_src {w : World} {B : Nat} {sp : Option Addr} {n cap c2 : Nat} {l : List UInt8} (h : BSrc w B sp n cap l) : (convert 22 9 (.slice sp n c2)).run Tryz.prog w = .ok (.string ⟨l.toArray⟩) w := by
 by_cases hn : n = 0
 ·have hl : l = [] := List.eq_nil_of_length_eq_zero (by rw [h.len]; exact hn)
  subst hn hl
  cases sp with
  | none =>
    rw [run_convert_bytes_string w 22 9 5 none 0 c2 Tryz.underlying22 Tryz.underlying5 Tryz.underlying9]
    rfl
  | some ad => exact run_convert_bytes_back w 22 9 5 ad c2 [] Tryz.underlying22 Tryz.underlying5 Tryz.underlying9 (fun j hj => absurd hj (by simp))
 ·obtain ⟨bb, off, rfl, _, _, hc⟩ := h.cells (by omega)
  have := run_convert_bytes_back w 22 9 5 ⟨bb, off, none⟩ c2 l Tryz.underlying22 Tryz.underlying5 Tryz.underlying9 (fun j hj => by rw [Addr.add_mid]; exact hc j hj)
  rwa [h.len] at this
theorem own_le {w : World} {base e : Nat} {sp : Option Addr} {n cap : Nat} {xs : List Value} (h : w.ownsRow base e 1 (.slice sp n cap) n xs) : n ≤ maxLen := by
 obtain ⟨_, ⟨_, h2⟩ | ⟨g, c, u, _, _, _, h3, h4, _⟩⟩ := h
 ·subst h2; exact Nat.zero_le _
 ·exact Nat.le_trans h3 h4
theorem strs_own {w : World} {base : Nat} {q : Ln} (h : LnOwn w base q) : StrsIn w w.heap.size q.sp q.n q.l := by
 unfold LnOwn at h
 obtain ⟨h0, h1⟩ := h
 rw [List.length_map, Nat.mul_one] at h0
 refine ⟨h0, fun hn => ?_⟩
 rcases h1 with ⟨_, h2⟩ | ⟨g, c, u, e, _, hg, _, _, hs, ht⟩
 ·omega
 ·injection e with e1 e2 e3
  refine ⟨g, 0, e1, (Array.getElem?_eq_some_iff.1 hg).1, fun j hj => ?_⟩
  rw [cell_of_row w g (0 + j) u _ _ hg, Nat.zero_add]
  have h5 : (u.toList.take (q.n * 1))[j]? = some (.string q.l[j]) := by rw [ht]; simp [hj]
  rw [List.getElem?_take, if_pos (by omega)] at h5
  simpa using h5
theorem lines_ownD {w : World} {base : Nat} {sp : Option Addr} {cap : Nat} {ls : List Ln} (h : w.ownsRow base 27 1 (.slice sp ls.length cap) ls.length (ls.map Ln.val)) (he : ∀ q ∈ ls, LnOwn w base q) : LinesIn w w.heap.size sp ls.length ls := by
 refine ⟨rfl, fun hn => ?_, fun q hq => strs_own (he q hq)⟩
 obtain ⟨_, ⟨_, h2⟩ | ⟨g, c, u, e, _, hg, _, _, hs, ht⟩⟩ := h
 ·omega
 ·injection e with e1 e2 e3
  refine ⟨g, 0, e1, (Array.getElem?_eq_some_iff.1 hg).1, fun j hj => ?_⟩
  rw [cell_of_row w g (0 + j) u _ _ hg, Nat.zero_add]
  have h5 : (u.toList.take (ls.length * 1))[j]? = some ls[j].val := by rw [ht]; simp [hj]
  rw [List.getElem?_take, if_pos (by omega)] at h5
  simpa using h5
def decC (S : ByteArray) : Nat × List (List ByteArray) := if 262144 < S.size then (3, []) else match rdoc S with
 | none => (2, [])
 | some L => if chk L = 0 then (0, L) else (2, [])
def DecRes (w : World) (r : Nat × List (List ByteArray)) (e : Ending) (w' : World) : Prop :=
 ∃ (sp : Option Addr) (cap : Nat) (ls : List Ln), wordsOf ls = r.2 ∧ e = .returned (.tuple #[.slice sp ls.length cap, .int .i64 (r.1 : Int)]) ∧ w'.ownsRow w.heap.size 27 1 (.slice sp ls.length cap) ls.length (ls.map Ln.val) ∧ (∀ q ∈ ls, LnOwn w' w.heap.size q) ∧ Below w.heap.size w w'
theorem decRes_no {w : World} {r : Nat × List (List ByteArray)} {c : Nat} {e : Ending} {w' : World} (h : r = (c, [])) (he : e = .returned (.tuple #[.slice none 0 0, .int .i64 (c : Int)])) (hb : Below w.heap.size w w') : DecRes w r e w' := by
 subst h
 exact ⟨none, 0, [], rfl, he, World.ownsRow_nil _ _ _ _, (fun q hq => by cases hq), hb⟩
theorem Decode_any (sp : Option Addr) (n cap : Nat) (l : List UInt8) (w : World) (hs : BSrc w w.heap.size sp n cap l) :
 Calls Tryz.prog 29 #[.slice sp n cap] w (DecRes w (decC ⟨l.toArray⟩)) := by
 have hlen : (⟨l.toArray⟩ : ByteArray).size = n := by rw [Lib.size_eq]; exact hs.len
 have hcv := run_conv_src (c2 := cap) hs
 obtain ⟨S, hS⟩ : ∃ S : ByteArray, ⟨l.toArray⟩ = S := ⟨_, rfl⟩
 rw [hS] at hlen hcv ⊢
 clear hS hs
 by_cases hbig : 262144 < n
 ·have hd : decide ((n : Int) > 262144) = true := by simp; omega
  have HR : Hid (decC S = (3, [])) := by show _ = _; unfold decC; rw [if_pos (by omega)]
  clear hbig hlen hcv
  go_enter Tryz.func29, Tryz.ntmps29
  go_wp2_with fail
  go_ret2
  exact decRes_no HR.out rfl (Below.refl _ _)
 ·have hd : decide ((n : Int) > 262144) = false := by simp; omega
  have HRL := zh (readLines_any S w (by omega))
  have HR0 : Hid (decC S = match rdoc S with | none => (2, []) | some L => if chk L = 0 then (0, L) else (2, [])) := by show _ = _; unfold decC; rw [if_neg (by omega)]
  clear hbig hlen
  cases hr : rdoc S with
  | none =>
    rw [hr] at HRL HR0
    have HR : Hid (decC S = (2, [])) := HR0.out
    have HC : Hid (Calls Tryz.prog 60 #[.string S] w fun e w' => e = .returned (.tuple #[.slice none 0 0, .bool false]) ∧ Below w.heap.size w w') := HRL.out
    clear HRL HR0 hr
    go_enter Tryz.func29, Tryz.ntmps29
    go_wp2_with fail
    refine HC.out.mono ?_
    rintro e w1 ⟨rfl, b1⟩
    go_wp2_with fail
    go_ret2
    exact decRes_no HR.out rfl b1
  | some L =>
    rw [hr] at HRL HR0
    have HR : Hid (decC S = if chk L = 0 then (0, L) else (2, [])) := HR0.out
    have HC : Hid (Calls Tryz.prog 60 #[.string S] w fun e w' => ∃ (sp : Option Addr) (cap : Nat) (ls : List Ln), wordsOf ls = L ∧ e = .returned (.tuple #[.slice sp ls.length cap, .bool true]) ∧ w'.ownsRow w.heap.size 27 1 (.slice sp ls.length cap) ls.length (ls.map Ln.val) ∧ (∀ q ∈ ls, LnOwn w' w.heap.size q) ∧ Below w.heap.size w w') := HRL.out
    clear HRL HR0 hr
    by_cases hk : chk L = 0
    ·rw [if_pos hk] at HR
     go_enter Tryz.func29, Tryz.ntmps29
     go_wp2_with fail
     refine HC.out.mono ?_
     rintro e w1 ⟨sp1, cap1, ls, hwo, rfl, o1, he1, b1⟩
     have hck := checkLines_any sp1 ls.length cap1 ls w1 (lines_ownD o1 he1) (own_le o1) (fun q hq => own_le (he1 q hq))
     rw [hwo, hk] at hck
     have HCK := zh hck; have HO1 := zh o1; have HE1 := zh he1; have HWO := zh hwo; have HB1 := zh b1
     clear hck o1 he1 hwo b1 hk
     go_wp2_with fail
     refine HCK.out.mono ?_
     rintro e w2 ⟨rfl, rfl⟩
     go_wp2_with fail
     go_ret2
     rw [HR.out]
     exact ⟨sp1, cap1, ls, HWO.out, rfl, HO1.out, HE1.out, HB1.out⟩
    ·rw [if_neg hk] at HR
     obtain ⟨c, hc⟩ : ∃ c, chk L = c := ⟨_, rfl⟩
     rw [hc] at hk
     have hne : ((c : Int) != 0) = true := by rw [bne_iff_ne]; omega
     have HCE := zh hc
     clear hc
     go_enter Tryz.func29, Tryz.ntmps29
     go_wp2_with fail
     refine HC.out.mono ?_
     rintro e w1 ⟨sp1, cap1, ls, hwo, rfl, o1, he1, b1⟩
     have hck := checkLines_any sp1 ls.length cap1 ls w1 (lines_ownD o1 he1) (own_le o1) (fun q hq => own_le (he1 q hq))
     rw [hwo, HCE.out] at hck
     have HCK := zh hck; have HB1 := zh b1
     clear hck o1 he1 hwo b1
     go_wp2_with fail
     refine HCK.out.mono ?_
     rintro e w2 ⟨rfl, rfl⟩
     go_wp2_with fail
     go_ret2
     exact decRes_no HR.out rfl HB1.out
def hdT (tag : ByteArray) (q : List ByteArray) : Bool := match q with
 | [] => false
 | a :: _ => decide (a = tag)
theorem while_of {α : Type} (p : α → Bool) : ∀ (L : List α) (k : Nat), k ≤ L.length → (∀ q ∈ L.take k, p q = true) → (∀ q, L[k]? = some q → p q = false) → L.takeWhile p = L.take k ∧ L.dropWhile p = L.drop k
 | [], k, hk, _, _ => by
   obtain rfl : k = 0 := by simpa using hk
   exact ⟨rfl, rfl⟩
 | x :: L, 0, _, _, hn => by
   have := hn x rfl
   simp [this]
 | x :: L, k + 1, hk, h, hn => by
   have hx := h x (by simp)
   obtain ⟨h1, h2⟩ := while_of p L k (by simpa using hk) (fun q hq => h q (by simp [hq])) (fun q hq => hn q (by simpa using hq))
   simp [hx, h1, h2]
def slZ (sp : Option Addr) (k sz cap : Nat) : Option Addr := if cap = k then sp else sp.map (·.add (k * sz))
theorem run_fromZ {t e : TypeId} {sz : Nat} (ht : Tryz.prog.underlying t = some (.slice e)) (he : (Tryz.prog.info? e).map (·.size) = some sz) (w : World) (sp : Option Addr) (n cap k : Nat) (hk : k ≤ n) :
 (Instr.slice t (.slice sp n cap) (some (.int .i64 k)) none none).run Tryz.prog w = .ok (.slice (slZ sp k sz cap) (n - k) (cap - k)) w := by
 have h1 : (0 : Int) ≤ (k : Int) ∧ (k : Int) ≤ (n : Int) := ⟨by omega, by omega⟩
 simp [Instr.slice, Instr.sliceBounds, Instr.sliceBound, asIntOf, run_underlying ht, sizeOf_of he, hk, slZ]
theorem LinesIn.till {w : World} {B : Nat} {sp : Option Addr} {n : Nat} {ls : List Ln} (h : LinesIn w B sp n ls) {k : Nat} (hk : k ≤ n) : LinesIn w B sp k (ls.take k) :=
 ⟨by rw [List.length_take, h.len]; omega, fun hn => by
  obtain ⟨b, off, e, hlt, hc⟩ := h.cells (by omega)
  refine ⟨b, off, e, hlt, fun j hj => ?_⟩
  rw [List.length_take] at hj
  rw [List.getElem_take]
  exact hc j (by omega), fun q hq => h.each q (List.mem_of_mem_take hq)⟩
theorem LinesIn.from {w : World} {B : Nat} {sp : Option Addr} {n cap : Nat} {ls : List Ln} (h : LinesIn w B sp n ls) {k : Nat} (hk : k ≤ n) (hc : n ≤ cap) : LinesIn w B (slZ sp k 1 cap) (n - k) (ls.drop k) :=
 ⟨by rw [List.length_drop, h.len], fun hn => by
  obtain ⟨b, off, rfl, hlt, hcell⟩ := h.cells (by omega)
  refine ⟨b, off + k, ?_, hlt, fun j hj => ?_⟩
  ·unfold slZ; rw [if_neg (by omega)]; simp [Addr.add]
  ·rw [List.length_drop] at hj
   rw [List.getElem_drop, Nat.add_assoc]
   exact hcell (k + j) (by omega), fun q hq => h.each q (List.mem_of_mem_drop hq)⟩
theorem StrsIn.from {w : World} {B : Nat} {sp : Option Addr} {n cap : Nat} {l : List ByteArray} (h : StrsIn w B sp n l) {k : Nat} (hk : k ≤ n) (hc : n ≤ cap) : StrsIn w B (slZ sp k 1 cap) (n - k) (l.drop k) :=
 ⟨by rw [List.length_drop, h.len], fun hn => by
  obtain ⟨b, off, rfl, hlt, hcell⟩ := h.cells (by omega)
  refine ⟨b, off + k, ?_, hlt, fun j hj => ?_⟩
  ·unfold slZ; rw [if_neg (by omega)]; simp [Addr.add]
  ·rw [List.length_drop] at hj
   rw [List.getElem_drop, Nat.add_assoc]
   exact hcell (k + j) (by omega)⟩
theorem infoLS : (Tryz.prog.info? 27).map (·.size) = some 1 := by kernel_rfl
theorem take_any (tag : ByteArray) (gl B : Nat) (sp : Option Addr) (n cap : Nat) (ls : List Ln) (w : World) (hbox : w.cell? ⟨gl, 0, none⟩ = some (.slice sp n cap)) (hfz : w.frozen? ⟨gl, 0, none⟩ = false) (hl : LinesIn w B sp n ls) (hne : ∀ q ∈ ls, q.l ≠ []) (hcap : n ≤ cap) (hmax : n ≤ 100000) :
 Calls Tryz.prog 62 #[.string tag, .pointer (some ⟨gl, 0, none⟩)] w fun e w' => ∃ k, k ≤ n ∧ (∀ q ∈ ls.take k, hdT tag q.l = true) ∧ (∀ q, ls[k]? = some q → hdT tag q.l = false) ∧ e = .returned (.slice sp k cap) ∧ w' = w.setCell ⟨gl, 0, none⟩ (.slice (slZ sp k 1 cap) (n - k) (cap - k)) := by
 have HL := zh hl; have HNE := zh hne
 clear hl hne
 go_enter Tryz.func62, Tryz.ntmps62
 go_wp2_with fail
 go_loop [4] (fun i => ∃ k : Nat, i = .int .i64 k ∧ k ≤ n ∧ Hid (∀ q ∈ ls.take k, hdT tag q.l = true)) (fun i => n - (intOf i).toNat)
 case atStart => exact ⟨0, rfl, by omega, by show ∀ _, _; simp⟩
 case round =>
  obtain ⟨k, rfl, hkn, HA⟩ := hrel
  by_cases hlt : k < n
  ·have hd : decide ((k : Int) < (n : Int)) = true := by simp; omega
   obtain ⟨b, off, hsp, hb, hcell⟩ := HL.out.cells (by omega)
   have hk2 : k < ls.length := by have := HL.out.len; omega
   have ck := hcell k hk2
   have hq : ls[k] ∈ ls := List.getElem_mem _
   have hqk : ls[k]? = some ls[k] := List.getElem?_eq_getElem hk2
   have HST := zh (HL.out.each _ hq)
   have HN0 := zh (HNE.out _ hq)
   clear hcell
   obtain ⟨q, hqe⟩ : ∃ q, q = ls[k] := ⟨_, rfl⟩
   rw [← hqe] at ck hqk HST HN0 hq
   clear hqe hk2
   have hq0 : 0 < q.n := by
    have h1 := HST.out.len
    cases hql : q.l with
    | nil => exact absurd hql HN0.out
    | cons a r => rw [hql] at h1; simp at h1; omega
   obtain ⟨b2, off2, hsp2, hb2, hcell2⟩ := HST.out.cells hq0
   obtain ⟨s, r, hql⟩ : ∃ s r, q.l = s :: r := by
    cases hql : q.l with
    | nil => exact absurd hql HN0.out
    | cons a r => exact ⟨a, r, rfl⟩
   have c2 := hcell2 0 (by rw [hql]; simp)
   have e2 : q.l[0]'(by rw [hql]; simp) = s := by simp [hql]
   rw [e2, Nat.add_zero] at c2
   unfold Ln.val at ck
   rw [hsp2] at ck
   subst hsp
   have p1 : (0 : Int) ≤ (k : Int) := by omega
   have p2 : (k : Int) < (n : Int) := by omega
   have p3 : (0 : Int) < (q.n : Int) := by omega
   have HHD : Hid (hdT tag q.l = decide (s = tag)) := by show _ = _; rw [hql]; rfl
   have HQK := zh hqk
   clear hcell2 hql e2 HST HN0 hq hqk hsp2
   by_cases he : s = tag
   ·have hde : decide (s = tag) = true := decide_eq_true he
    have hte : (s.toList == tag.toList) = true := by rw [he]; simp
    have HA2 : Hid (∀ z ∈ ls.take (k + 1), hdT tag z.l = true) := by
     intro z hz
     rw [List.take_add_one, HQK.out] at hz
     rcases List.mem_append.1 hz with h1 | h1
     ·exact HA.out z h1
     ·simp at h1; subst h1; rw [HHD.out]; exact hde
    clear HA HHD HQK he
    go_wp2_with fail
    go_round
    case rel => exact ⟨k + 1, by go_num, by omega, HA2.out⟩
    case measure => simp [intOf]; omega
   ·have hde : decide (s = tag) = false := decide_eq_false he
    have hte : (s.toList == tag.toList) = false := by rw [beq_eq_false_iff_ne]; exact fun e => he (toList_inj e)
    have HNX : Hid (∀ z, ls[k]? = some z → hdT tag z.l = false) := by
     intro z hz
     rw [HQK.out] at hz
     injection hz with hz
     subst hz; rw [HHD.out]; exact hde
    clear HHD HQK he
    have hk0 : k ≤ cap := by omega
    have hs1 := run_till (t := 59) Tryz.underlying59 infoLS w (some ⟨b, off, none⟩) n cap k hkn hcap
    have hs2 := run_fromZ (t := 59) Tryz.underlying59 infoLS w (some ⟨b, off, none⟩) n cap k hkn
    go_wp2_with fail
    go_ret
    exact ⟨k, hkn, HA.out, HNX.out, rfl, rfl⟩
  ·obtain rfl : k = n := by omega
   have hd : decide ((k : Int) < (k : Int)) = false := by simp
   have HNX : Hid (∀ z, ls[k]? = some z → hdT tag z.l = false) := by
    intro z hz
    have h1 := (List.getElem?_eq_some_iff.1 hz).1
    have h2 := HL.out.len
    omega
   have hk0 : k ≤ cap := by omega
   have hs1 := run_till (t := 59) Tryz.underlying59 infoLS w sp k cap k (Nat.le_refl _) hcap
   have hs2 := run_fromZ (t := 59) Tryz.underlying59 infoLS w sp k cap k (Nat.le_refl _)
   go_wp2_with fail
   go_ret
   exact ⟨k, hkn, HA.out, HNX.out, rfl, by rw [Nat.sub_self]⟩
def drL (x : Rc) (m v : Bool) : List Value := x.L ++ [.bool m, .bool v]
theorem infoDrA (x : Rc) (m v : Bool) : (Tryz.prog.info? 70).map (·.size) = some (drL x m v).toArray.size := by kernel_rfl
theorem oneDr (x : Rc) (m v : Bool) : (drL x m v).toArray.all (·.oneCell') = true := by simp [drL, Rc.L, Value.oneCell']
structure DrB (gd B : Nat) (x : Rc) (m v : Bool) (w : World) : Prop where
 row : w.heap[gd]? = some (.cells (drL x m v).toArray 70 (0, 0))
 lo : B ≤ gd
 c : StrsIn w B x.c1 x.cn x.c
 v : w.ownsRow B 61 2 (.slice x.v1 x.vn x.vc) x.vn (x.v.flatMap vrL) ∧ x.v.length = x.vn
 m : OwnE w B (.slice x.m1 x.mn x.mc) x.m ∧ x.m.length = x.mn
 p : OwnE w B (.slice x.p1 x.pn x.pc) x.p ∧ x.p.length = x.pn
theorem DrB.lt {gd B : Nat} {x : Rc} {m v : Bool} {w : World} (h : DrB gd B x m v w) : gd < w.heap.size := (Array.getElem?_eq_some_iff.1 h.row).1
theorem DrB.cell {gd B j : Nat} {x : Rc} {m v : Bool} {w : World} {u : Value} (h : DrB gd B x m v w) (hj : (drL x m v)[j]? = some u) : w.cell? ⟨gd, j, none⟩ = some u ∧ w.frozen? ⟨gd, j, none⟩ = false := ⟨heap_cellR h.row hj, frozen_of_row _ _ _ _ _ h.row⟩
theorem DrB.below {gd B : Nat} {x : Rc} {m v : Bool} {w w' : World} (h : DrB gd B x m v w) (hb : Below w.heap.size w w') : DrB gd B x m v w' :=
 ⟨(hb.block gd h.lt).trans h.row, h.lo, h.c.below hb (Nat.le_of_lt (Nat.lt_of_le_of_lt h.lo h.lt)), ⟨own_keptQ h.v.1 fun g cur _ hc => hb.block g (Array.getElem?_eq_some_iff.1 hc).1, h.v.2⟩,
  ⟨⟨own_keptQ h.m.1.1 fun g cur _ hc => hb.block g (Array.getElem?_eq_some_iff.1 hc).1, h.m.1.2⟩, h.m.2⟩, ⟨⟨own_keptQ h.p.1.1 fun g cur _ hc => hb.block g (Array.getElem?_eq_some_iff.1 hc).1, h.p.1.2⟩, h.p.2⟩⟩
theorem own_setD {w : World} {gd j B e size n : Nat} {u v : Value} {xs : List Value} {cs : Array Value} (h : w.ownsRow B e size v n xs) (hg : w.heap[gd]? = some (.cells cs 70 (0, 0))) (he : e ≠ 70) : (w.setCell ⟨gd, j, none⟩ u).ownsRow B e size v n xs :=
 own_keptQ h fun g cur _ hc => heap_setCell_other _ _ _ _ (by
  rintro rfl
  rw [hg] at hc
  injection hc with hc
  injection hc with _ hc _
  exact he hc.symm)
theorem DrB.set {gd B : Nat} {x : Rc} {m v : Bool} {w : World} (h : DrB gd B x m v w) (j : Nat) (u : Value) (x' : Rc) (m' v' : Bool) (hr : (drL x m v).toArray.setIfInBounds j u = (drL x' m' v').toArray)
 (hc : StrsIn w B x'.c1 x'.cn x'.c) (hv : w.ownsRow B 61 2 (.slice x'.v1 x'.vn x'.vc) x'.vn (x'.v.flatMap vrL) ∧ x'.v.length = x'.vn) (hm : OwnE w B (.slice x'.m1 x'.mn x'.mc) x'.m ∧ x'.m.length = x'.mn) (hp : OwnE w B (.slice x'.p1 x'.pn x'.pc) x'.p ∧ x'.p.length = x'.pn) :
 DrB gd B x' m' v' (w.setCell ⟨gd, j, none⟩ u) :=
 ⟨by rw [heap_setCell_same _ _ _ _ _ _ h.row, hr], h.lo, hc.below ((Below.refl B w).setCell (p := ⟨gd, j, none⟩) h.lo _) (Nat.le_refl _), ⟨own_setD hv.1 h.row (by decide), hv.2⟩, ⟨⟨own_setD hm.1.1 h.row (by decide), hm.1.2⟩, hm.2⟩, ⟨⟨own_setD hp.1.1 h.row (by decide), hp.1.2⟩, hp.2⟩⟩
theorem require_any (gd B : Nat) (x : Rc) (m v f : Bool) (w : World) (h : DrB gd B x m v w) :
 Calls Tryz.prog 67 #[.pointer (some ⟨gd, 0, none⟩), .bool f] w fun e w' => e = .returned (.bool f) ∧ DrB gd B x (m || !f) v w' ∧ Turn gd w w' := by
 have HD := zh h
 have HD2 := zh (h.set 8 (.bool (m || !f)) x (m || !f) v rfl h.c h.v h.m h.p)
 have HT2 : Hid (Turn gd w (w.setCell ⟨gd, 8, none⟩ (.bool (m || !f)))) := Turn.tick _ _ _ _
 clear h
 have cS := (HD.out.cell (j := 8) rfl).1
 have fS := (HD.out.cell (j := 8) rfl).2
 go_enter Tryz.func67, Tryz.ntmps67
 cases m <;> cases f
 all_goals
  go_wp2_with fail
  go_ret
  exact ⟨rfl, HD2.out, HT2.out⟩
def okH (q : List ByteArray) : Bool := decide (q.length = 5) && pnk (q.getD 4 ByteArray.empty).data.toList
def hdR (x : Rc) (q : List ByteArray) : Rc := { x with run := q.getD 1 ByteArray.empty, scp := q.getD 2 ByteArray.empty, stp := q.getD 3 ByteArray.empty, t := pnv (q.getD 4 ByteArray.empty).data.toList }
theorem readHead_any (gd B : Nat) (x : Rc) (m v : Bool) (sp : Option Addr) (n cap : Nat) (ls : List Ln) (w : World) (h : DrB gd B x m v w) (hl : LinesIn w B sp n ls) (hsz : ∀ q ∈ ls, ∀ s ∈ q.l, s.size ≤ 100000) :
 Calls Tryz.prog 63 #[.pointer (some ⟨gd, 0, none⟩), .slice sp n cap] w fun e w' => e = .returned (.tuple #[]) ∧ Turn gd w w' ∧ ∃ x' m', DrB gd B x' m' v w' ∧ (x'.vn = x.vn ∧ x'.c1 = x.c1) ∧
  ((m' = true ∧ ¬ (∃ q, ls = [q] ∧ okH q.l = true ∧ m = false)) ∨ (m' = m ∧ ∃ q, ls = [q] ∧ okH q.l = true ∧ x' = hdR x q.l)) := by
 have HD := zh h; have HL := zh hl; have HSZ := zh hsz
 clear h hl hsz
 have HRQ := zh (fun f => require_any gd B x m v f w HD.out)
 by_cases hn : n = 1
 case neg =>
  have hd : decide ((n : Int) = 1) = false := by simp; omega
  go_enter Tryz.func63, Tryz.ntmps63
  go_wp2_with fail
  refine (HRQ.out false).mono ?_
  rintro e w1 ⟨rfl, hd1, ht1⟩
  have HD1 := zh hd1; have HT1 := zh ht1
  clear hd1 ht1 HRQ
  go_wp2_with fail
  refine bodyPost_ret (results_none rfl _ _ _) rfl ?_
  refine ⟨rfl, HT1.out, x, _, HD1.out, ⟨rfl, rfl⟩, .inl ⟨by simp, ?_⟩⟩
  rintro ⟨q, rfl, _⟩
  exact hn HL.out.len.symm
 subst hn
 obtain ⟨b, off, rfl, hb, hcell⟩ := HL.out.cells (by omega)
 obtain ⟨qs, qn, qc, ql, rfl⟩ : ∃ qs qn qc ql, ls = [(⟨qs, qn, qc, ql⟩ : Ln)] := by
  have := HL.out.len
  match ls, this with
  | [r], _ => exact ⟨r.sp, r.n, r.cap, r.l, rfl⟩
 have cq := hcell 0 (by simp)
 rw [Nat.add_zero] at cq
 simp only [List.getElem_cons_zero] at cq
 have HST : Hid (StrsIn w B qs qn ql) := HL.out.each _ (List.mem_singleton.2 rfl)
 have HSQ : Hid (∀ s ∈ ql, s.size ≤ 100000) := HSZ.out _ (List.mem_singleton.2 rfl)
 replace cq : w.cell? ⟨b, off, none⟩ = some (.slice qs qn qc) := cq
 clear hcell HL HSZ
 by_cases h5 : qn = 5
 case neg =>
  have hd : decide ((qn : Int) = 5) = false := by simp; omega
  have hd2 : ((qn : Int) == 5) = false := by rw [beq_eq_false_iff_ne]; omega
  go_enter Tryz.func63, Tryz.ntmps63
  go_wp2_with fail
  refine (HRQ.out false).mono ?_
  rintro e w1 ⟨rfl, hd1, ht1⟩
  have HD1 := zh hd1; have HT1 := zh ht1
  clear hd1 ht1 HRQ
  go_wp2_with fail
  refine bodyPost_ret (results_none rfl _ _ _) rfl ?_
  refine ⟨rfl, HT1.out, x, _, HD1.out, ⟨rfl, rfl⟩, .inl ⟨by simp, ?_⟩⟩
  rintro ⟨q2, e, hk, _⟩
  injection e with e _
  subst e
  have := HST.out.len
  unfold okH at hk
  simp at hk
  omega
 obtain ⟨t, a, b', c, d, hq⟩ : ∃ t a b' c d, ql = [t, a, b', c, d] := by
  have := HST.out.len
  rw [h5] at this
  match hq : ql, this with
  | [t, a, b', c, d], _ => exact ⟨t, a, b', c, d, rfl⟩
 obtain ⟨b2, off2, hs2, hb2, hcell2⟩ := HST.out.cells (by omega)
 rw [hq] at hcell2
 have HWD : Hid (∀ w', Below B w w' → w'.cell? ⟨b2, off2 + 1, none⟩ = some (.string a) ∧ w'.cell? ⟨b2, off2 + 2, none⟩ = some (.string b') ∧ w'.cell? ⟨b2, off2 + 3, none⟩ = some (.string c) ∧ w'.cell? ⟨b2, off2 + 4, none⟩ = some (.string d)) := fun w' hb =>
  ⟨(hb.cell (p := ⟨b2, off2 + 1, none⟩) hb2).trans (hcell2 1 (by simp)), (hb.cell (p := ⟨b2, off2 + 2, none⟩) hb2).trans (hcell2 2 (by simp)), (hb.cell (p := ⟨b2, off2 + 3, none⟩) hb2).trans (hcell2 3 (by simp)), (hb.cell (p := ⟨b2, off2 + 4, none⟩) hb2).trans (hcell2 4 (by simp))⟩
 have HDS : Hid (d.size ≤ 100000) := HSQ.out d (by rw [hq]; simp)
 have HCQ : Hid (∀ w', Below B w w' → w'.cell? ⟨b, off, none⟩ = some (.slice qs qn qc)) := fun w' hbb => (hbb.cell (p := ⟨b, off, none⟩) hb).trans cq
 clear hcell2 HST HSQ
 rw [hs2, h5] at cq
 rw [hs2, h5] at HCQ
 have HQ : Hid (ql = [t, a, b', c, d]) := hq
 clear hq hb hb2 hs2 h5
 go_enter Tryz.func63, Tryz.ntmps63
 go_wp2_with fail
 refine (HRQ.out true).mono ?_
 rintro e w1 ⟨rfl, hd1, ht1⟩
 have hmt : (m || !true) = m := by simp
 rw [hmt] at hd1
 have HD1 := zh hd1; have HT1 := zh ht1
 have HB1 : Hid (Below B w w1) := ht1.below HD.out.lo HD.out.lt
 have cq1 := HCQ.out w1 HB1.out
 have c4 := (HWD.out w1 HB1.out).2.2.2
 clear hd1 ht1 HRQ hmt cq
 have HPN := zh (ParseNumber_any d w1 (by have := HDS.out; omega))
 go_wp2_with fail
 refine HPN.out.mono ?_
 rintro e w1' ⟨rfl, rfl⟩
 have HRQ2 := zh (fun f => require_any gd B x m v f w1 HD1.out)
 obtain ⟨f, hf⟩ : ∃ f, f = pnk d.data.toList := ⟨_, rfl⟩
 rw [← hf]
 have HF := zh hf
 clear hf HPN
 go_wp2_with fail
 refine (HRQ2.out f).mono ?_
 rintro e w4 ⟨rfl, hd4, ht4⟩
 obtain ⟨m2, hm2⟩ : ∃ m2, m2 = (m || !f) := ⟨_, rfl⟩
 rw [← hm2] at hd4
 have HM2 := zh hm2
 clear hm2
 have HB4 : Hid (Below B w w4) := HB1.out.trans (ht4.below HD1.out.lo HD1.out.lt)
 have HT4 : Hid (Turn gd w w4) := HT1.out.trans ht4
 have HW4 : Hid (∀ w', Below B w4 w' → w'.cell? ⟨b2, off2 + 1, none⟩ = some (.string a) ∧ w'.cell? ⟨b2, off2 + 2, none⟩ = some (.string b') ∧ w'.cell? ⟨b2, off2 + 3, none⟩ = some (.string c) ∧ w'.cell? ⟨b2, off2 + 4, none⟩ = some (.string d)) := fun w' hb => HWD.out w' (HB4.out.trans hb)
 clear HD HD1 HT1 HB1 HWD HRQ2 cq1 c4 HCQ ht4 HDS HB4
 have HD := zh hd4
 have HWD := zh HW4.out
 clear hd4 HW4
 go_upto_region 4 with fail
 refine wp_region_held_drew (S := fun w' => Below B w4 w') (by kernel_rfl) (Below.refl B w4).drew (fun hHeld => ?_)
 have HD0 : Hid (DrB gd B x m2 v w4.drew) := HD.out.below (Below.refl w4.heap.size w4).drew
 have HBd : Hid (Below B w4 w4.drew) := (Below.refl B w4).drew
 have HTd : Hid (Turn gd w4 w4.drew) := Turn.of (Below.refl w4.heap.size w4).drew
 clear HD
 generalize World.drew w4 = wd at *
 refine zv 0 rfl ?_
 refine zv 1 rfl ?_
 refine zv 2 rfl ?_
 refine zv 3 rfl ?_
 refine zv 4 rfl ?_
 refine zv 5 rfl ?_
 refine zx 6 rfl (v := ?_) ?_ ?_; rotate_left
 ·intro w' hSw; have ce := (HWD.out w' hSw).1; go_simp; try with_reducible rfl
 refine zv 7 rfl ?_
 refine zv 8 rfl ?_
 refine zx 9 rfl (v := ?_) ?_ ?_; rotate_left
 ·intro w' hSw; have ce := (HWD.out w' hSw).2.1; go_simp; try with_reducible rfl
 refine zv 10 rfl ?_
 refine zv 11 rfl ?_
 refine zx 12 rfl (v := ?_) ?_ ?_; rotate_left
 ·intro w' hSw; have ce := (HWD.out w' hSw).2.2.1; go_simp; try with_reducible rfl
 refine zv 13 rfl ?_
 refine zv 14 rfl ?_
 refine zv 15 rfl ?_
 refine zv 16 rfl ?_
 refine zr 17 rfl (fun K hK => ?_)
 rw [if_pos (by rfl)]
 have cS := (HD0.out.cell (j := 0) rfl).1
 have fS := (HD0.out.cell (j := 0) rfl).2
 have HD1 := zh (HD0.out.set 0 (.string a) ({ x with run := a }) m2 v rfl HD0.out.c HD0.out.v HD0.out.m HD0.out.p)
 have HTS' : Hid (Turn gd wd (World.setCell wd ⟨gd, 0, none⟩ (.string a))) := (Turn.refl gd wd).trans (Turn.tick _ _ _ _)
 have HTS := HTS'
 clear HTS'
 have HB1 : Hid (Below B w4 (World.setCell wd ⟨gd, 0, none⟩ (.string a))) := (HBd.out).setCell (p := ⟨gd, 0, none⟩) HD0.out.lo _
 go_simp
 clear cS fS HD0
 generalize World.setCell wd ⟨gd, 0, none⟩ _ = s1 at *
 refine hK.out _ _ HB1.out fun _ => ?_; clear hK K
 try simp only [Act.put, zuA, zuB, zuC, zuD, zuY, zuF]
 refine zv 18 rfl ?_
 refine zv 19 rfl ?_
 refine zv 20 rfl ?_
 refine zr 21 rfl (fun K hK => ?_)
 rw [if_pos (by rfl)]
 have cS := (HD1.out.cell (j := 1) rfl).1
 have fS := (HD1.out.cell (j := 1) rfl).2
 have HD2 := zh (HD1.out.set 1 (.string b') ({ x with run := a, scp := b' }) m2 v rfl HD1.out.c HD1.out.v HD1.out.m HD1.out.p)
 have HTS' : Hid (Turn gd wd (World.setCell s1 ⟨gd, 1, none⟩ (.string b'))) := (HTS.out).trans (Turn.tick _ _ _ _)
 clear HTS
 have HTS := HTS'
 clear HTS'
 have HB2 : Hid (Below B w4 (World.setCell s1 ⟨gd, 1, none⟩ (.string b'))) := (HB1.out).setCell (p := ⟨gd, 1, none⟩) HD1.out.lo _
 go_simp
 clear cS fS HD1
 generalize World.setCell s1 ⟨gd, 1, none⟩ _ = s2 at *
 refine hK.out _ _ HB2.out fun _ => ?_; clear hK K
 try simp only [Act.put, zuA, zuB, zuC, zuD, zuY, zuF]
 refine zv 22 rfl ?_
 refine zv 23 rfl ?_
 refine zv 24 rfl ?_
 refine zr 25 rfl (fun K hK => ?_)
 rw [if_pos (by rfl)]
 have cS := (HD2.out.cell (j := 2) rfl).1
 have fS := (HD2.out.cell (j := 2) rfl).2
 have HD3 := zh (HD2.out.set 2 (.string c) ({ x with run := a, scp := b', stp := c }) m2 v rfl HD2.out.c HD2.out.v HD2.out.m HD2.out.p)
 have HTS' : Hid (Turn gd wd (World.setCell s2 ⟨gd, 2, none⟩ (.string c))) := (HTS.out).trans (Turn.tick _ _ _ _)
 clear HTS
 have HTS := HTS'
 clear HTS'
 have HB3 : Hid (Below B w4 (World.setCell s2 ⟨gd, 2, none⟩ (.string c))) := (HB2.out).setCell (p := ⟨gd, 2, none⟩) HD2.out.lo _
 go_simp
 clear cS fS HD2
 generalize World.setCell s2 ⟨gd, 2, none⟩ _ = s3 at *
 refine hK.out _ _ HB3.out fun _ => ?_; clear hK K
 try simp only [Act.put, zuA, zuB, zuC, zuD, zuY, zuF]
 refine zv 26 rfl ?_
 refine zv 27 rfl ?_
 refine zv 28 rfl ?_
 refine zr 29 rfl (fun K hK => ?_)
 rw [if_pos (by rfl)]
 have cS := (HD3.out.cell (j := 3) rfl).1
 have fS := (HD3.out.cell (j := 3) rfl).2
 have HD4 := zh (HD3.out.set 3 (.int .i64 (pnv d.data.toList)) ({ x with run := a, scp := b', stp := c, t := pnv d.data.toList }) m2 v rfl HD3.out.c HD3.out.v HD3.out.m HD3.out.p)
 have HTS' : Hid (Turn gd wd (World.setCell s3 ⟨gd, 3, none⟩ (.int .i64 (pnv d.data.toList)))) := (HTS.out).trans (Turn.tick _ _ _ _)
 clear HTS
 have HTS := HTS'
 clear HTS'
 have HB4 : Hid (Below B w4 (World.setCell s3 ⟨gd, 3, none⟩ (.int .i64 (pnv d.data.toList)))) := (HB3.out).setCell (p := ⟨gd, 3, none⟩) HD3.out.lo _
 go_simp
 clear cS fS HD3
 generalize World.setCell s3 ⟨gd, 3, none⟩ _ = s4 at *
 refine hK.out _ _ HB4.out fun _ => ?_; clear hK K
 try simp only [Act.put, zuA, zuB, zuC, zuD, zuY, zuF]
 refine zd ?_ _
 have HTE : Hid (Turn gd w s4) := HT4.out.trans (HTd.out.trans HTS.out)
 go_wp2_with fail
 go_end0
 have hx : hdR x ql = { x with run := a, scp := b', stp := c, t := pnv d.data.toList } := by unfold hdR; rw [HQ.out]; rfl
 refine ⟨rfl, HTE.out, _, m2, HD4.out, ⟨rfl, rfl⟩, ?_⟩
 have hok : okH ql = f := by unfold okH; rw [HQ.out, HF.out]; simp
 cases hfv : f with
 | true =>
   right
   exact ⟨by rw [HM2.out, hfv]; simp, _, rfl, by show okH ql = true; rw [hok, hfv], hx.symm⟩
 | false =>
   left
   refine ⟨by rw [HM2.out, hfv]; simp, ?_⟩
   rintro ⟨q2, e, hk, _⟩
   injection e with e _
   subst e
   have hk : okH ql = true := hk
   rw [hok, hfv] at hk; cases hk
end Go.Proofs.YtecllfbadciaoaaGreatDoor
