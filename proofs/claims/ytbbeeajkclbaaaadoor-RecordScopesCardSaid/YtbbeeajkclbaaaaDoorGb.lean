/-
  Plain mathematics, without conditions beyond those of each lemma: lists of entries and of changes in ascending order of their paths, two such lists side by side, and what insertion makes (no program is named here but for its name space).
-/
import Derived.Test.YtbbeeajkclbaaaaDoorZip
import Derived.Sort.Walk0
import Derived.Test.YtbbeeajkclbaaaaDoorDgA
import Derived.Test.YtbbeeajkclbaaaaDoorGa
import Derived.Deep.RegionHeld3
import Derived.Deep.RegionWith
import Derived.Laws.Cover1
import Derived.OwnWalk
import Derived.Laws.AppendOwn
set_option maxRecDepth 100000
set_option maxHeartbeats 8000000
namespace Go.Proofs.YtbbeeajkclbaaaaDoor
open Go
def pls (a b : ByteArray) : Bool := Op.bytesLess a.toList b.toList
theorem pls_iff (a b : ByteArray) : pls a b = true ↔ a.toList < b.toList := by unfold pls; rw [bytesLess_eq]; simp
theorem pls_irrefl (a : ByteArray) : pls a a = false := by
 rw [Bool.eq_false_iff]; intro h; exact List.lt_irrefl _ ((pls_iff a a).1 h)
theorem pls_trans {a b c : ByteArray} (h : pls a b = true) (k : pls b c = true) : pls a c = true :=
 (pls_iff a c).2 (List.lt_trans ((pls_iff a b).1 h) ((pls_iff b c).1 k))
theorem pls_asymm {a b : ByteArray} (h : pls a b = true) : pls b a = false := by
 rw [Bool.eq_false_iff]; intro k; exact absurd (pls_trans h k) (by rw [pls_irrefl]; simp)
theorem pls_ne {a b : ByteArray} (h : pls a b = true) : a ≠ b := fun e => by rw [e, pls_irrefl] at h; cases h
structure En where
 p : ByteArray
 d : List Int
deriving DecidableEq
structure Cg where
 p : ByteArray
 o : List Int
 n : List Int
deriving DecidableEq
section
variable {α : Type} (f : α → ByteArray)
def Srt (l : List α) : Prop := l.Pairwise fun x y => pls (f x) (f y) = true
def upto (l : List α) (k : Nat) : Bool := (List.range k).all fun i => match l[i]?, l[i + 1]? with
 | some x, some y => pls (f x) (f y)
 | _, _ => true
def ascB (l : List α) : Bool := upto f l (l.length - 1)
variable {f}
theorem upto_succ {l : List α} {k : Nat} {x y : α} (hx : l[k]? = some x) (hy : l[k + 1]? = some y) : upto f l (k + 1) = (upto f l k && pls (f x) (f y)) := by
 unfold upto; rw [List.range_succ, List.all_append]; simp [hx, hy]
theorem upto_false {l : List α} {k m : Nat} (h : upto f l k = false) (hm : k ≤ m) : upto f l m = false := by
 unfold upto at h ⊢
 rw [List.all_eq_false] at h ⊢
 obtain ⟨i, hi, hh⟩ := h
 exact ⟨i, by simp at hi ⊢; omega, hh⟩
theorem Srt.tail {x : α} {l : List α} (h : Srt f (x :: l)) : Srt f l := (List.pairwise_cons.1 h).2
theorem Srt.head {x y : α} {l : List α} (h : Srt f (x :: l)) (hy : y ∈ l) : pls (f x) (f y) = true := (List.pairwise_cons.1 h).1 y hy
theorem Srt.one {l : List α} (h : Srt f l) : ∀ {x y : α}, x ∈ l → y ∈ l → f x = f y → x = y := by
 induction l with
 | nil => intro x y hx; cases hx
 | cons z l ih =>
   intro x y hx hy e
   rcases List.mem_cons.1 hx with rfl | hx
   ·rcases List.mem_cons.1 hy with rfl | hy
    ·rfl
    ·exact absurd e (pls_ne (h.head hy))
   ·rcases List.mem_cons.1 hy with e' | hy
    ·exact absurd (by rw [← e', e]) (pls_ne (Srt.head h hx))
    ·exact ih h.tail hx hy e
theorem Srt.ext : ∀ {a b : List α}, Srt f a → Srt f b → (∀ x, x ∈ a ↔ x ∈ b) → a = b
 | [], [], _, _, _ => rfl
 | [], y :: b, _, _, h => absurd ((h y).2 (by simp)) (by simp)
 | x :: a, [], _, _, h => absurd ((h x).1 (by simp)) (by simp)
 | x :: a, y :: b, ha, hb, h => by
   have hx := (h x).1 (by simp)
   have hy := (h y).2 (by simp)
   have e : x = y := by
    rcases List.mem_cons.1 hx with e | hx
    ·exact e
    rcases List.mem_cons.1 hy with e | hy
    ·exact e.symm
    ·have h1 := pls_asymm (Srt.head ha hy); rw [Srt.head hb hx] at h1; cases h1
   subst e
   have : a = b := Srt.ext ha.tail hb.tail fun z => by
    constructor
    ·intro hz
     rcases List.mem_cons.1 ((h z).1 (List.mem_cons_of_mem _ hz)) with e | hz'
     ·subst e; exact absurd rfl (pls_ne (ha.head hz))
     ·exact hz'
    ·intro hz
     rcases List.mem_cons.1 ((h z).2 (List.mem_cons_of_mem _ hz)) with e | hz'
     ·subst e; exact absurd rfl (pls_ne (hb.head hz))
     ·exact hz'
   rw [this]
end
/-! ### two lists of changes side by side -/
def kp (p : ByteArray) (d : List Int) : Cg := ⟨p, d, d⟩
def Side (a b : List Cg) (q : Cg × Cg) : Prop := (q.1 ∈ a ∧ q.2 ∈ b ∧ q.1.p = q.2.p) ∨ (q.1 ∈ a ∧ (∀ z ∈ b, z.p ≠ q.1.p) ∧ q.2 = kp q.1.p q.1.n) ∨ (q.2 ∈ b ∧ (∀ z ∈ a, z.p ≠ q.2.p) ∧ q.1 = kp q.2.p q.2.o)
theorem Side.same {a b : List Cg} {q : Cg × Cg} (h : Side a b q) : q.1.p = q.2.p := by
 rcases h with ⟨_, _, h⟩ | ⟨_, _, h⟩ | ⟨_, _, h⟩
 ·exact h
 ·rw [h]; rfl
 ·rw [h]; rfl
section
variable {α β : Type} {f : α → ByteArray} {g : β → ByteArray}
end
/-! ### composing -/
def hA (x : Cg) : Option En := if x.n = zed then none else some ⟨x.p, x.n⟩
end Go.Proofs.YtbbeeajkclbaaaaDoor
namespace Go.Proofs.YtbbeeajkclbaaaaDoor
open Go.RowKit
def enL (x : En) : List Value := Value.string x.p :: x.d.map (Value.int .u8)
def cgL (x : Cg) : List Value := Value.string x.p :: (x.o.map (Value.int .u8) ++ x.n.map (Value.int .u8))
def OkE (x : En) : Prop := D32 x.d
def OkC (x : Cg) : Prop := D32 x.o ∧ D32 x.n
theorem enL_length {x : En} (h : OkE x) : (enL x).length = 33 := by unfold enL; rw [List.length_cons, List.length_map, h.1]
theorem enL_one (x : En) : ∀ u ∈ enL x, u.oneCell' = true := fun u hu => by
 rcases List.mem_cons.1 hu with rfl | hu
 ·rfl
 ·obtain ⟨i, _, rfl⟩ := List.mem_map.1 hu; rfl
theorem infoE : (Tryd.prog.info? 52).map (·.size) = some 33 := by kernel_rfl
def EnB (w : World) (b : Nat) (x : En) : Prop := w.heap[b]? = some (.cells (enL x).toArray 52 (0, 0))
theorem EnB.p {w : World} {b : Nat} {x : En} (h : EnB w b x) : w.cell? ⟨b, 0, none⟩ = some (.string x.p) := by rw [cell_of_row w b 0 _ _ _ h]; rfl
theorem EnB.d {w : World} {b : Nat} {x : En} (h : EnB w b x) : w.rangeAt b 1 (x.d.map (Value.int .u8)) := range_row (pre := [.string x.p]) (post := []) h (by simp [enL]) rfl
theorem EnB.all {w : World} {b : Nat} {x : En} (h : EnB w b x) : w.rangeAt b 0 (enL x) := range_row (pre := []) (post := []) h (by simp) rfl
theorem EnB.new (w : World) (x : En) : EnB (w.alloc (.cells (enL x).toArray 52)) w.heap.size x := heap_alloc_new w _
theorem EnB.below {w w' : World} {B b : Nat} {x : En} (h : EnB w b x) (hb : Below B w w') (hlt : b < B) : EnB w' b x := (hb.block b hlt).trans h
theorem info_e {x : En} (h : OkE x) : (Tryd.prog.info? 52).map (·.size) = some (enL x).length := by rw [enL_length h]; exact infoE
theorem entryPath_any (x : En) (w : World) :
 Calls Tryd.prog 51 #[.agg (enL x).toArray] w fun e w' => e = .returned (.string x.p) ∧ Below w.heap.size w w' := by
 have hr := (EnB.new w x).p
 have HB := zh ((Below.refl w.heap.size w).alloc (Nat.le_refl _) (.cells (enL x).toArray 52))
 go_enter Tryd.func51, Tryd.ntmps51
 go_wp2_with fail
 go_ret
 exact ⟨rfl, HB.out⟩
def badE (x : En) : Bool := decide (x.d = zed) || !pathB x.p
theorem incorrect_any (x : En) (w : World) (hx : OkE x) :
 Calls Tryd.prog 49 #[.agg (enL x).toArray] w fun e w' => e = .returned (.bool (badE x)) ∧ Below w.heap.size w w' := by
 have HN := zh (EnB.new w x)
 have HB := zh ((Below.refl w.heap.size w).alloc (Nat.le_refl _) (.cells (enL x).toArray 52))
 have HO := zh (info_d hx)
 have he := eqlZ x.d hx.1
 clear hx
 by_cases hz : x.d = zed
 ·have HZ : Hid (badE x = true) := by show _ = _; unfold badE; rw [decide_eq_true hz]; rfl
  rw [decide_eq_true hz] at he
  clear hz
  go_enter Tryd.func49, Tryd.ntmps49
  go_wp2_with (generalize hw0 : World.alloc w _ = w0; have hr : EnB w0 w.heap.size x := (by rw [← hw0]; exact HN.out); have hbb : Below w.heap.size w w0 := (by rw [← hw0]; exact HB.out); have HR := zh hr; have HBB := zh hbb; clear hw0 hr hbb; refine wpList_load_mid rfl 50 _ rfl w.heap.size 1 rfl _ _ HR.out.d Tryd.underlying50 rfl HO.out ?_)
  go_ret
  exact ⟨ret_boolP HZ.out.symm, HBB.out⟩
 ·have HZ : Hid (badE x = !pathB x.p) := by show _ = _; unfold badE; rw [decide_eq_false hz]; rfl
  rw [decide_eq_false hz] at he
  clear hz
  go_enter Tryd.func49, Tryd.ntmps49
  go_wp2_with (generalize hw0 : World.alloc w _ = w0; have hr : EnB w0 w.heap.size x := (by rw [← hw0]; exact HN.out); have hbb : Below w.heap.size w w0 := (by rw [← hw0]; exact HB.out); have hp := hr.p; have HR := zh hr; have HBB := zh hbb; clear hw0 hr hbb; refine wpList_load_mid rfl 50 _ rfl w.heap.size 1 rfl _ _ HR.out.d Tryd.underlying50 rfl HO.out ?_)
  refine (Path_any x.p _).mono ?_
  rintro e w1 ⟨rfl, hb1⟩
  have HB1 := zh hb1; clear hb1
  go_wp2
  go_ret
  exact ⟨ret_boolP HZ.out.symm, HBB.out.trans (HB1.out.mono HBB.out.size)⟩
structure EnsIn (w : World) (B : Nat) (sp : Option Addr) (n cap : Nat) (l : List En) : Prop where
 len : l.length = n
 ok : ∀ x ∈ l, OkE x
 cells : 0 < n → ∃ b off, sp = some ⟨b, off, none⟩ ∧ b < B ∧ n ≤ cap ∧ ∀ i x, l[i]? = some x → w.rangeAt b (off + i * 33) (enL x)
structure CgsIn (w : World) (B : Nat) (sp : Option Addr) (n cap : Nat) (l : List Cg) : Prop where
 len : l.length = n
 ok : ∀ x ∈ l, OkC x
 cells : 0 < n → ∃ b off, sp = some ⟨b, off, none⟩ ∧ b < B ∧ n ≤ cap ∧ ∀ i x, l[i]? = some x → w.rangeAt b (off + i * 65) (cgL x)
theorem range_belowS {w w' : World} {b o B : Nat} {cs : List Value} (h : w.rangeAt b o cs) (hb : Below B w w') (hlt : b < B) : w'.rangeAt b o cs := fun j v hv => (hb.cell (p := ⟨b, o + j, none⟩) hlt).trans (h j v hv)
theorem EnsIn.below {w w' : World} {B B' : Nat} {sp : Option Addr} {n cap : Nat} {l : List En} (h : EnsIn w B sp n cap l) (hb : Below B' w w') (hB : B ≤ B') : EnsIn w' B' sp n cap l :=
 ⟨h.len, h.ok, fun hn => by
  obtain ⟨b, off, e, hlt, hc, hr⟩ := h.cells hn
  exact ⟨b, off, e, by omega, hc, fun i x hi => range_belowS (hr i x hi) hb (by omega)⟩⟩
theorem CgsIn.below {w w' : World} {B B' : Nat} {sp : Option Addr} {n cap : Nat} {l : List Cg} (h : CgsIn w B sp n cap l) (hb : Below B' w w') (hB : B ≤ B') : CgsIn w' B' sp n cap l :=
 ⟨h.len, h.ok, fun hn => by
  obtain ⟨b, off, e, hlt, hc, hr⟩ := h.cells hn
  exact ⟨b, off, e, by omega, hc, fun i x hi => range_belowS (hr i x hi) hb (by omega)⟩⟩
def IdxResE (w : World) (a : Bool) (e : Ending) (w' : World) : Prop := ∃ r : Int, e = .returned (.int .i64 r) ∧ decide (r ≥ 0) = a ∧ Below w.heap.size w w'
theorem indexE_any (sp : Option Addr) (n cap : Nat) (l : List En) (w : World) (hl : EnsIn w w.heap.size sp n cap l) (hn : n ≤ 1000000) :
 Calls Tryd.prog 68 #[.slice sp n cap, .func (.func 49) #[] #[]] w (IdxResE w (l.any badE)) := by
 have HL := zh hl
 clear hl
 go_enter Tryd.func68, Tryd.ntmps68
 go_wp2_with fail
 go_loopw [8] (fun i wr => ∃ k : Nat, k ≤ n ∧ i = .int .i64 k ∧ Hid ((l.take k).any badE = false) ∧ Hid (Below w.heap.size w wr)) (fun i _ => n - (intOf i).toNat)
 case atStart => exact ⟨0, Nat.zero_le _, rfl, rfl, Below.refl _ _⟩
 case round =>
  obtain ⟨k, hk, rfl, HA, hbe⟩ := hrel
  by_cases hlt : k < n
  ·have hd : decide ((k : Int) < (n : Int)) = true := by simp; omega
   obtain ⟨b, off, rfl, hbB, hcap, hr⟩ := HL.out.cells (by omega)
   have hkl : k < l.length := by rw [HL.out.len]; exact hlt
   obtain ⟨x, hx⟩ : ∃ x, l[k]? = some x := ⟨l[k], List.getElem?_eq_getElem hkl⟩
   have hxm : x ∈ l := List.mem_of_getElem? hx
   have HR := zh (range_belowS (hr k x hx) hbe.out hbB)
   have HI := zh (info_e (HL.out.ok x hxm))
   have HT : Hid ((l.take (k + 1)).any badE = ((l.take k).any badE || badE x)) := by show _ = _; rw [List.take_add_one, List.any_append, hx]; simp
   have HM : Hid (badE x = true → l.any badE = true) := fun h => List.any_eq_true.2 ⟨x, hxm, h⟩
   have p1 : (0 : Int) ≤ (k : Int) := by omega
   have p2 : (k : Int) < (n : Int) := by omega
   have hF := fun w' => incorrect_any x w' (HL.out.ok x hxm)
   clear hr hx hxm hkl
   obtain ⟨c, hc⟩ : ∃ c, badE x = c := ⟨_, rfl⟩
   rw [hc] at hF
   have HC := zh hF; have HQ := zh hc
   clear hF hc
   cases c
   ·go_wp2_with (refine wpList_load_mid rfl 52 _ rfl b (off + k * 33) rfl _ _ HR.out Tryd.underlying52 rfl HI.out ?_)
    refine (HC.out _).mono ?_
    rintro e w1 ⟨rfl, hb1⟩
    have HB1 := zh (hbe.out.trans (hb1.mono hbe.out.size)); clear hb1
    go_wp2_with fail
    go_roundw
    case rel => exact ⟨k + 1, hlt, by go_num, by show _ = _; rw [HT.out, HA.out, HQ.out]; rfl, HB1.out⟩
    case measure => simp [intOf]; omega
   ·go_wp2_with (refine wpList_load_mid rfl 52 _ rfl b (off + k * 33) rfl _ _ HR.out Tryd.underlying52 rfl HI.out ?_)
    refine (HC.out _).mono ?_
    rintro e w1 ⟨rfl, hb1⟩
    have HB1 := zh (hbe.out.trans (hb1.mono hbe.out.size)); clear hb1
    go_wp2_with fail
    go_ret
    exact ⟨k, rfl, by rw [HM.out HQ.out]; simp, HB1.out⟩
  ·obtain rfl : k = n := by omega
   have hd : decide ((k : Int) < (k : Int)) = false := by simp
   have HZ : Hid (l.any badE = false) := by have := HA.out; rw [List.take_of_length_le (by rw [HL.out.len]; exact Nat.le_refl _)] at this; exact this
   go_wp2_with fail
   go_ret
   exact ⟨-1, rfl, by rw [HZ.out]; rfl, hbe.out⟩
theorem containsE_any (sp : Option Addr) (n cap : Nat) (l : List En) (w : World) (hl : EnsIn w w.heap.size sp n cap l) (hn : n ≤ 1000000) :
 Calls Tryd.prog 48 #[.slice sp n cap, .func (.func 49) #[] #[]] w fun e w' => e = .returned (.bool (l.any badE)) ∧ Below w.heap.size w w' := by
 have HL := zh hl
 clear hl
 go_enter Tryd.func48, Tryd.ntmps48
 go_wp2_with fail
 refine (indexE_any sp n cap l _ HL.out hn).mono ?_
 rintro e w1 ⟨r, rfl, hr, hb⟩
 have HR := zh hr; have HB := zh hb; clear hr hb
 go_wp2_with fail
 go_ret
 exact ⟨ret_boolP HR.out, HB.out⟩
theorem ascendE_any (sp : Option Addr) (n cap : Nat) (l : List En) (w : World) (hl : EnsIn w w.heap.size sp n cap l) (hn : n ≤ 1000000) :
 Calls Tryd.prog 50 #[.slice sp n cap, .func (.func 51) #[] #[]] w fun e w' => e = .returned (.bool (ascB En.p l)) ∧ Below w.heap.size w w' := by
 have HL := zh hl
 clear hl
 go_enter Tryd.func50, Tryd.ntmps50
 go_wp2_with fail
 go_loopw [5] (fun i wr => ∃ k : Nat, k ≤ n ∧ i = .int .i64 ((k : Int) + 1) ∧ Hid (upto En.p l k = true) ∧ Hid (Below w.heap.size w wr)) (fun i _ => n + 1 - (intOf i).toNat)
 case atStart => exact ⟨0, Nat.zero_le _, rfl, rfl, Below.refl _ _⟩
 case round =>
  obtain ⟨k, hk, rfl, HA, hbe⟩ := hrel
  by_cases hlt : k + 1 < n
  ·have hd : decide ((k : Int) + 1 < (n : Int)) = true := by simp; omega
   obtain ⟨b, off, rfl, hbB, hcap, hr⟩ := HL.out.cells (by omega)
   have hkl : k + 1 < l.length := by rw [HL.out.len]; exact hlt
   obtain ⟨x, hx⟩ : ∃ x, l[k]? = some x := ⟨l[k], List.getElem?_eq_getElem (by omega)⟩
   obtain ⟨y, hy⟩ : ∃ y, l[k + 1]? = some y := ⟨l[k + 1], List.getElem?_eq_getElem hkl⟩
   have HX := zh (fun w' (hb : Below w.heap.size w w') => range_belowS (hr k x hx) hb hbB)
   have HY := zh (fun w' (hb : Below w.heap.size w w') => range_belowS (hr (k + 1) y hy) hb hbB)
   have HIX := zh (info_e (HL.out.ok x (List.mem_of_getElem? hx)))
   have HIY := zh (info_e (HL.out.ok y (List.mem_of_getElem? hy)))
   have HT := zh (upto_succ (f := En.p) hx hy)
   have p1 : (0 : Int) ≤ (k : Int) := by omega
   have p2 : (k : Int) < (n : Int) := by omega
   have p3 : (0 : Int) ≤ (k : Int) + 1 := by omega
   have p4 : (k : Int) + 1 < (n : Int) := by omega
   have q1 : (k : Int) + 1 - 1 = (k : Int) := by omega
   have q2 : ((k : Int) + 1).toNat = k + 1 := by omega
   have q3 : IntKind.i64.wrap ((k : Int) + 1 - 1) = (k : Int) := by rw [q1]; exact IntWalk.i64_in _ (by omega)
   have q4 : IntKind.i64.wrap (k : Int) = (k : Int) := IntWalk.i64_in _ (by omega)
   have q5 : IntKind.i64.wrap ((k : Int) + 1) = (k : Int) + 1 := IntWalk.i64_in _ (by omega)
   clear hr hx hy hkl
   have HALL : Hid (∀ w', Below w.heap.size w w' → w'.rangeAt b (off + k * 33) (enL x) ∧ w'.rangeAt b (off + (k + 1) * 33) (enL y)) := fun w' hb => ⟨HX.out _ hb, HY.out _ hb⟩
   have hbd := hbe.out.drew
   obtain ⟨c, hc⟩ : ∃ c, Op.bytesLess x.p.toList y.p.toList = c := ⟨_, rfl⟩
   have HC : Hid (pls x.p y.p = c) := hc
   go_wp2_with fail
   refine wp_region_held_drew (S := fun w' => w'.rangeAt b (off + k * 33) (enL x) ∧ w'.rangeAt b (off + (k + 1) * 33) (enL y)) (by kernel_rfl) (HALL.out _ hbd) (fun hHeld => ?_)
   refine zv 0 rfl ?_
   try simp only [Act.put, List.getElem_toArray, List.getElem_cons_zero, List.setIfInBounds_toArray, List.set_cons_zero, List.set_cons_succ]
   refine zv 1 rfl ?_
   refine zv 2 rfl ?_
   refine zv 3 rfl ?_
   refine zv 4 rfl ?_
   refine zv 7 rfl ?_
   refine zv 8 rfl ?_
   refine zv 9 rfl ?_
   refine zv 10 rfl ?_
   refine' zk 5 rfl (v := _) (yieldsIf_load_mid (by rfl) _ _ rfl _ _ rfl _ _ ?hS5 Tryd.underlying52 rfl HIX.out) ?rest5
   case hS5 =>
    intro w' hSw
    exact hSw.1
   try simp only [Act.put, zA, zB, zC, zD, zE, zF]
   refine' zk 11 rfl (v := _) (yieldsIf_load_mid (by rfl) _ _ rfl _ _ rfl _ _ ?hS11 Tryd.underlying52 rfl HIY.out) ?rest11
   case hS11 =>
    intro w' hSw
    exact hSw.2
   try simp only [Act.put, zA, zB, zC, zD, zE, zF]
   refine zr 6 rfl (fun K hK => ?_)
   go_simp
   with_reducible refine (entryPath_any x _).mono ?_
   rintro e w1 ⟨rfl, hb1⟩
   go_wp2_with fail
   refine hK.out _ _ (HALL.out _ (hbd.trans (hb1.mono hbd.size))) fun _ => ?_; clear hK K
   try simp only [Act.put, zA, zB, zC, zD, zE, zF]
   refine zr 12 rfl (fun K hK => ?_)
   go_simp
   with_reducible refine (entryPath_any y _).mono ?_
   rintro e w2 ⟨rfl, hb2⟩
   go_wp2_with fail
   refine hK.out _ _ (HALL.out _ (hbd.trans ((hb1.trans (hb2.mono hb1.size)).mono hbd.size))) fun _ => ?_; clear hK K
   try simp only [Act.put, zA, zB, zC, zD, zE, zF]
   refine zv 13 rfl ?_
   refine zd ?_ _
   have HB2 := zh (hbd.trans ((hb1.trans (hb2.mono hb1.size)).mono hbd.size))
   clear hb1 hb2 hbd hHeld hc
   have HM : Hid (upto En.p l (k + 1) = c) := by show _ = _; rw [HT.out, HA.out, HC.out]; rfl
   cases c
   ·have HZ : Hid (ascB En.p l = false) := upto_false HM.out (by rw [HL.out.len]; omega)
    go_wp2_with fail
    go_ret
    exact ⟨ret_boolP HZ.out.symm, HB2.out⟩
   ·go_wp2_with fail
    go_roundw
    case rel => exact ⟨k + 1, by omega, by go_num, HM.out, HB2.out⟩
    case measure => simp [intOf]; omega
  ·have hd : decide ((k : Int) + 1 < (n : Int)) = false := by simp; omega
   have HZ : Hid (ascB En.p l = true) := by
    show upto En.p l (l.length - 1) = true
    have h1 := HA.out
    unfold upto at h1 ⊢
    rw [List.all_eq_true] at h1 ⊢
    intro i hi
    exact h1 i (by simp at hi ⊢; have := HL.out.len; omega)
   go_wp2_with fail
   go_ret
   exact ⟨ret_boolP HZ.out.symm, hbe.out⟩
def vldE (l : List En) : Bool := decide (l.length ≤ 64) && !l.any badE && ascB En.p l
theorem Valid_any (sp : Option Addr) (n cap : Nat) (l : List En) (w : World) (hl : EnsIn w w.heap.size sp n cap l) (hn : n ≤ 1000000) :
 Calls Tryd.prog 31 #[.slice sp n cap] w fun e w' => e = .returned (.bool (vldE l)) ∧ Below w.heap.size w w' := by
 have HL := zh hl
 clear hl
 by_cases h64 : n ≤ 64
 ·have hd : decide ((n : Int) ≤ 64) = true := by simp; omega
  have HV : Hid (vldE l = (!l.any badE && ascB En.p l)) := by show _ = _; unfold vldE; rw [decide_eq_true (by rw [HL.out.len]; exact h64)]; rfl
  obtain ⟨c, hc⟩ : ∃ c, l.any badE = c := ⟨_, rfl⟩
  have hF := fun w' (h : EnsIn w' w'.heap.size sp n cap l) => containsE_any sp n cap l w' h hn
  rw [hc] at hF
  have HC := zh hF; have HQ := zh hc
  clear hF hc h64
  cases c
  ·go_enter Tryd.func31, Tryd.ntmps31
   go_wp2_with fail
   refine (HC.out _ HL.out).mono ?_
   rintro e w1 ⟨rfl, hb1⟩
   have HB1 := zh hb1; clear hb1
   go_wp2_with fail
   refine (ascendE_any sp n cap l _ (HL.out.below (HB1.out) (Nat.le_refl _) |>.below (Below.refl w1.heap.size w1) HB1.out.size) hn).mono ?_
   rintro e w2 ⟨rfl, hb2⟩
   have HB2 := zh hb2; clear hb2
   go_wp2_with fail
   go_ret
   exact ⟨ret_boolP (by rw [HV.out, HQ.out]; rfl), HB1.out.trans (HB2.out.mono HB1.out.size)⟩
  ·go_enter Tryd.func31, Tryd.ntmps31
   go_wp2_with fail
   refine (HC.out _ HL.out).mono ?_
   rintro e w1 ⟨rfl, hb1⟩
   have HB1 := zh hb1; clear hb1
   go_wp2_with fail
   go_ret
   exact ⟨ret_boolP (by rw [HV.out, HQ.out]; rfl), HB1.out⟩
 ·have hd : decide ((n : Int) ≤ 64) = false := by simp; omega
  have HV : Hid (vldE l = false) := by show _ = _; unfold vldE; rw [decide_eq_false (by rw [HL.out.len]; exact h64)]; rfl
  go_enter Tryd.func31, Tryd.ntmps31
  go_wp2_with fail
  go_ret
  exact ⟨ret_boolP HV.out.symm, Below.refl _ _⟩
theorem own_belowS {w w' : World} {base e size : Nat} {v : Value} {n : Nat} {xs : List Value} (h : w.ownsRow base e size v n xs) (hb : Below w.heap.size w w') : w'.ownsRow base e size v n xs := by
 obtain ⟨hl, h1 | ⟨g, cap, cur, rfl, hbg, hg, rest⟩⟩ := h
 ·exact ⟨hl, .inl h1⟩
 ·exact ⟨hl, .inr ⟨g, cap, cur, rfl, hbg, (hb.block g (Array.getElem?_eq_some_iff.1 hg).1).trans hg, rest⟩⟩
def rowsE (l : List En) : List Value := l.flatMap enL
def OwnE (w : World) (base : Nat) (v : Value) (l : List En) : Prop := w.ownsRow base 52 33 v l.length (rowsE l) ∧ ∀ x ∈ l, OkE x
theorem OwnE.below {w w' : World} {base : Nat} {v : Value} {l : List En} (h : OwnE w base v l) (hb : Below w.heap.size w w') : OwnE w' base v l := ⟨own_belowS h.1 hb, h.2⟩
theorem OwnE.nil (w : World) (base : Nat) : OwnE w base (.slice none 0 0) [] := ⟨World.ownsRow_nil w base _ _, by simp⟩
end Go.Proofs.YtbbeeajkclbaaaaDoor
