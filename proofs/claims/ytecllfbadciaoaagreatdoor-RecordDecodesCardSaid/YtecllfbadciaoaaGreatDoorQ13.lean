/-
  A record's lines: taking those that begin with a word (conditions: no line is empty; the lines stand in memory, apart from the variable that holds the rest).
-/
import Derived.Test.YtecllfbadciaoaaGreatDoorZip
import Derived.Test.YtecllfbadciaoaaGreatDoorRecE
import Derived.Deep.RegionHeld
set_option maxRecDepth 100000
set_option maxHeartbeats 8000000
namespace Go.Proofs.YtecllfbadciaoaaGreatDoor
open Go.RowKit
def hdT (tag : ByteArray) (q : List ByteArray) : Bool := match q with
 | [] => false
 | a :: _ => decide (a = tag)
theorem while_of {α : Type} (p : α → Bool) : ∀ (L : List α) (k : Nat), k ≤ L.length → (∀ q ∈ L.take k, p q = true) → (∀ q, L[k]? = some q → p q = false) → L.takeWhile p = L.take k ∧ L.dropWhile p = L.drop k
 | [], k, hk, _, _ => by
   obtain rfl : k = 0 := by simpa using hk
   exact ⟨rfl, rfl⟩
 | x :: L, 0, _, _, hn => by
   have := hn x rfl
   simp [this]
 | x :: L, k + 1, hk, h, hn => by
   have hx := h x (by simp)
   obtain ⟨h1, h2⟩ := while_of p L k (by simpa using hk) (fun q hq => h q (by simp [hq])) (fun q hq => hn q (by simpa using hq))
   simp [hx, h1, h2]
def slZ (sp : Option Addr) (k sz cap : Nat) : Option Addr := if cap = k then sp else sp.map (·.add (k * sz))
theorem run_fromZ {t e : TypeId} {sz : Nat} (ht : Tryz.prog.underlying t = some (.slice e)) (he : (Tryz.prog.info? e).map (·.size) = some sz) (w : World) (sp : Option Addr) (n cap k : Nat) (hk : k ≤ n) :
 (Instr.slice t (.slice sp n cap) (some (.int .i64 k)) none none).run Tryz.prog w = .ok (.slice (slZ sp k sz cap) (n - k) (cap - k)) w := by
 have h1 : (0 : Int) ≤ (k : Int) ∧ (k : Int) ≤ (n : Int) := ⟨by omega, by omega⟩
 simp [Instr.slice, Instr.sliceBounds, Instr.sliceBound, asIntOf, run_underlying ht, sizeOf_of he, hk, slZ]
theorem LinesIn.till {w : World} {B : Nat} {sp : Option Addr} {n : Nat} {ls : List Ln} (h : LinesIn w B sp n ls) {k : Nat} (hk : k ≤ n) : LinesIn w B sp k (ls.take k) :=
 ⟨by rw [List.length_take, h.len]; omega, fun hn => by
  obtain ⟨b, off, e, hlt, hc⟩ := h.cells (by omega)
  refine ⟨b, off, e, hlt, fun j hj => ?_⟩
  rw [List.length_take] at hj
  rw [List.getElem_take]
  exact hc j (by omega), fun q hq => h.each q (List.mem_of_mem_take hq)⟩
theorem LinesIn.from {w : World} {B : Nat} {sp : Option Addr} {n cap : Nat} {ls : List Ln} (h : LinesIn w B sp n ls) {k : Nat} (hk : k ≤ n) (hc : n ≤ cap) : LinesIn w B (slZ sp k 1 cap) (n - k) (ls.drop k) :=
 ⟨by rw [List.length_drop, h.len], fun hn => by
  obtain ⟨b, off, rfl, hlt, hcell⟩ := h.cells (by omega)
  refine ⟨b, off + k, ?_, hlt, fun j hj => ?_⟩
  ·unfold slZ; rw [if_neg (by omega)]; simp [Addr.add]
  ·rw [List.length_drop] at hj
   rw [List.getElem_drop, Nat.add_assoc]
   exact hcell (k + j) (by omega), fun q hq => h.each q (List.mem_of_mem_drop hq)⟩
theorem StrsIn.from {w : World} {B : Nat} {sp : Option Addr} {n cap : Nat} {l : List ByteArray} (h : StrsIn w B sp n l) {k : Nat} (hk : k ≤ n) (hc : n ≤ cap) : StrsIn w B (slZ sp k 1 cap) (n - k) (l.drop k) :=
 ⟨by rw [List.length_drop, h.len], fun hn => by
  obtain ⟨b, off, rfl, hlt, hcell⟩ := h.cells (by omega)
  refine ⟨b, off + k, ?_, hlt, fun j hj => ?_⟩
  ·unfold slZ; rw [if_neg (by omega)]; simp [Addr.add]
  ·rw [List.length_drop] at hj
   rw [List.getElem_drop, Nat.add_assoc]
   exact hcell (k + j) (by omega)⟩
theorem infoLS : (Tryz.prog.info? 27).map (·.size) = some 1 := by kernel_rfl
theorem take_any (tag : ByteArray) (gl B : Nat) (sp : Option Addr) (n cap : Nat) (ls : List Ln) (w : World) (hbox : w.cell? ⟨gl, 0, none⟩ = some (.slice sp n cap)) (hfz : w.frozen? ⟨gl, 0, none⟩ = false) (hl : LinesIn w B sp n ls) (hne : ∀ q ∈ ls, q.l ≠ []) (hcap : n ≤ cap) (hmax : n ≤ 100000) :
 Calls Tryz.prog 62 #[.string tag, .pointer (some ⟨gl, 0, none⟩)] w fun e w' => ∃ k, k ≤ n ∧ (∀ q ∈ ls.take k, hdT tag q.l = true) ∧ (∀ q, ls[k]? = some q → hdT tag q.l = false) ∧ e = .returned (.slice sp k cap) ∧ w' = w.setCell ⟨gl, 0, none⟩ (.slice (slZ sp k 1 cap) (n - k) (cap - k)) := by
 have HL := zh hl; have HNE := zh hne
 clear hl hne
 go_enter Tryz.func62, Tryz.ntmps62
 go_wp2_with fail
 go_loop [4] (fun i => ∃ k : Nat, i = .int .i64 k ∧ k ≤ n ∧ Hid (∀ q ∈ ls.take k, hdT tag q.l = true)) (fun i => n - (intOf i).toNat)
 case atStart => exact ⟨0, rfl, by omega, by show ∀ _, _; simp⟩
 case round =>
  obtain ⟨k, rfl, hkn, HA⟩ := hrel
  by_cases hlt : k < n
  ·have hd : decide ((k : Int) < (n : Int)) = true := by simp; omega
   obtain ⟨b, off, hsp, hb, hcell⟩ := HL.out.cells (by omega)
   have hk2 : k < ls.length := by have := HL.out.len; omega
   have ck := hcell k hk2
   have hq : ls[k] ∈ ls := List.getElem_mem _
   have hqk : ls[k]? = some ls[k] := List.getElem?_eq_getElem hk2
   have HST := zh (HL.out.each _ hq)
   have HN0 := zh (HNE.out _ hq)
   clear hcell
   obtain ⟨q, hqe⟩ : ∃ q, q = ls[k] := ⟨_, rfl⟩
   rw [← hqe] at ck hqk HST HN0 hq
   clear hqe hk2
   have hq0 : 0 < q.n := by
    have h1 := HST.out.len
    cases hql : q.l with
    | nil => exact absurd hql HN0.out
    | cons a r => rw [hql] at h1; simp at h1; omega
   obtain ⟨b2, off2, hsp2, hb2, hcell2⟩ := HST.out.cells hq0
   obtain ⟨s, r, hql⟩ : ∃ s r, q.l = s :: r := by
    cases hql : q.l with
    | nil => exact absurd hql HN0.out
    | cons a r => exact ⟨a, r, rfl⟩
   have c2 := hcell2 0 (by rw [hql]; simp)
   have e2 : q.l[0]'(by rw [hql]; simp) = s := by simp [hql]
   rw [e2, Nat.add_zero] at c2
   unfold Ln.val at ck
   rw [hsp2] at ck
   subst hsp
   have p1 : (0 : Int) ≤ (k : Int) := by omega
   have p2 : (k : Int) < (n : Int) := by omega
   have p3 : (0 : Int) < (q.n : Int) := by omega
   have HHD : Hid (hdT tag q.l = decide (s = tag)) := by show _ = _; rw [hql]; rfl
   have HQK := zh hqk
   clear hcell2 hql e2 HST HN0 hq hqk hsp2
   by_cases he : s = tag
   ·have hde : decide (s = tag) = true := decide_eq_true he
    have hte : (s.toList == tag.toList) = true := by rw [he]; simp
    have HA2 : Hid (∀ z ∈ ls.take (k + 1), hdT tag z.l = true) := by
     intro z hz
     rw [List.take_add_one, HQK.out] at hz
     rcases List.mem_append.1 hz with h1 | h1
     ·exact HA.out z h1
     ·simp at h1; subst h1; rw [HHD.out]; exact hde
    clear HA HHD HQK he
    go_wp2_with fail
    go_round
    case rel => exact ⟨k + 1, by go_num, by omega, HA2.out⟩
    case measure => simp [intOf]; omega
   ·have hde : decide (s = tag) = false := decide_eq_false he
    have hte : (s.toList == tag.toList) = false := by rw [beq_eq_false_iff_ne]; exact fun e => he (toList_inj e)
    have HNX : Hid (∀ z, ls[k]? = some z → hdT tag z.l = false) := by
     intro z hz
     rw [HQK.out] at hz
     injection hz with hz
     subst hz; rw [HHD.out]; exact hde
    clear HHD HQK he
    have hk0 : k ≤ cap := by omega
    have hs1 := run_till (t := 59) Tryz.underlying59 infoLS w (some ⟨b, off, none⟩) n cap k hkn hcap
    have hs2 := run_fromZ (t := 59) Tryz.underlying59 infoLS w (some ⟨b, off, none⟩) n cap k hkn
    go_wp2_with fail
    go_ret
    exact ⟨k, hkn, HA.out, HNX.out, rfl, rfl⟩
  ·obtain rfl : k = n := by omega
   have hd : decide ((k : Int) < (k : Int)) = false := by simp
   have HNX : Hid (∀ z, ls[k]? = some z → hdT tag z.l = false) := by
    intro z hz
    have h1 := (List.getElem?_eq_some_iff.1 hz).1
    have h2 := HL.out.len
    omega
   have hk0 : k ≤ cap := by omega
   have hs1 := run_till (t := 59) Tryz.underlying59 infoLS w sp k cap k (Nat.le_refl _) hcap
   have hs2 := run_fromZ (t := 59) Tryz.underlying59 infoLS w sp k cap k (Nat.le_refl _)
   go_wp2_with fail
   go_ret
   exact ⟨k, hkn, HA.out, HNX.out, rfl, by rw [Nat.sub_self]⟩
end Go.Proofs.YtecllfbadciaoaaGreatDoor
namespace Go.Proofs.YtecllfbadciaoaaGreatDoor
section
variable {P : Program} {ops : Array Oper} {Q : Exit → Act → World → Prop} {md : Region.Mode} {S : World → Prop}
theorem wpAnyH_inv (I : Nat → Array Bool → Act → World → Prop)
 (h : ∀ n listed a w, I n listed a w → wpAnyH P md ops Q S n listed a w ∨ ∃ m, n = m + 1 ∧ Region.ready md ops listed ≠ [] ∧ ∀ i ∈ Region.ready md ops listed, wpOp P ops Q i (fun a' w' => S w' ∧ I m (listed.setIfInBounds i true) a' w') a w) :
 ∀ (n : Nat) (listed : Array Bool) (a : Act) (w : World), I n listed a w → wpAnyH P md ops Q S n listed a w
 | 0, listed, a, w, hI => by
   rcases h 0 listed a w hI with h1 | ⟨m, h1, _⟩
   ·exact h1
   ·omega
 | n + 1, listed, a, w, hI => by
   rcases h (n + 1) listed a w hI with h1 | ⟨m, h1, h2, h3⟩
   ·exact h1
   ·obtain rfl : n = m := by omega
    exact ⟨fun h0 => absurd h0 h2, fun i hi => wpOp_mono (fun a' w' h' => ⟨h'.1, wpAnyH_inv I h n _ a' w' h'.2⟩) (h3 i hi)⟩
def canB (md : Region.Mode) (ops : Array Oper) (listed : Array Bool) (i : Nat) : Bool := !listed.getD i true && ((ops[i]?).map (·.after.all fun e => !Region.binds md e || listed.getD e.on false)).getD false
theorem canB_of {listed : Array Bool} {i : Nat} (h : i ∈ Region.ready md ops listed) : canB md ops listed i = true := (List.mem_filter.1 h).2
theorem can_lt {listed : Array Bool} {i : Nat} (h : i ∈ Region.ready md ops listed) : i < ops.size := List.mem_range.1 (List.mem_filter.1 h).1
theorem ready_of {listed : Array Bool} {i : Nat} (hi : i < ops.size) (h : canB md ops listed i = true) : Region.ready md ops listed ≠ [] := List.ne_nil_of_mem (List.mem_filter.2 ⟨List.mem_range.2 hi, h⟩ : i ∈ Region.ready md ops listed)
end
end Go.Proofs.YtecllfbadciaoaaGreatDoor
namespace Go.Proofs.YtecllfbadciaoaaGreatDoor
open Go.RowKit
def posL (F : List En) (x : En) (k i : Nat) : Option En := if i < k then F[i]? else if i = k then some x else F[i - 1]?
theorem posL_lt {F : List En} {x y : En} {k i : Nat} (h : i < k) (hy : F[i]? = some y) : posL F x k i = some y := by unfold posL; rw [if_pos h]; exact hy
theorem posL_at {F : List En} {x : En} {k : Nat} : posL F x k k = some x := by unfold posL; rw [if_neg (Nat.lt_irrefl _), if_pos rfl]
theorem posL_list (F : List En) (x : En) (k : Nat) (hk : k ≤ F.length) (i : Nat) : (F.take k ++ x :: F.drop k)[i]? = posL F x k i := by
 unfold posL
 have hl : (F.take k).length = k := by rw [List.length_take]; omega
 by_cases h : i < k
 ·rw [if_pos h, List.getElem?_append_left (by omega), List.getElem?_take, if_pos h]
 ·rw [if_neg h, List.getElem?_append_right (by omega), hl]
  by_cases h2 : i = k
  ·subst h2; rw [if_pos rfl, Nat.sub_self]; rfl
  ·rw [if_neg h2, show i - k = (i - k - 1) + 1 by omega, List.getElem?_cons_succ, List.getElem?_drop, show k + (i - k - 1) = i - 1 by omega]
theorem posL_swap {F : List En} {x : En} {k i : Nat} (h1 : i ≠ k) (h2 : i ≠ k + 1) : posL F x k i = posL F x (k + 1) i := by
 unfold posL
 by_cases h : i < k
 ·rw [if_pos h, if_pos (by omega)]
 ·rw [if_neg h, if_neg h1, if_neg (by omega), if_neg h2]
theorem posL_up {F : List En} {x : En} {k : Nat} : posL F x k (k + 1) = F[k]? := by
 unfold posL; rw [if_neg (by omega), if_neg (by omega), Nat.add_sub_cancel]
structure RwP (w : World) (g N : Nat) (F : List En) (x : En) (k : Nat) : Prop where
 rng : ∀ i z, posL F x k i = some z → w.rangeAt g (i * 33) (enL z)
 there : w.there g 0 (N * 33)
theorem RwP.lt {w : World} {g N : Nat} {F : List En} {x : En} {k : Nat} (h : RwP w g N F x k) : g < w.heap.size := World.block_lt_of_cell? w _ (h.rng k x posL_at 0 _ rfl)
theorem there_below {w w' : World} {b o n : Nat} (h : w.there b o n) (hb : Below w.heap.size w w') (hlt : b < w.heap.size) : w'.there b o n := fun j hj =>
 ⟨by rw [hb.cell (p := ⟨b, o + j, none⟩) hlt]; exact (h j hj).1, by rw [hb.frozen (p := ⟨b, o + j, none⟩) hlt]; exact (h j hj).2⟩
theorem RwP.below {w w' : World} {g N : Nat} {F : List En} {x : En} {k : Nat} (h : RwP w g N F x k) (hb : Below w.heap.size w w') : RwP w' g N F x k :=
 ⟨fun i z hi => range_belowS (h.rng i z hi) hb h.lt, there_below h.there hb h.lt⟩
theorem there_sub {w : World} {g N i : Nat} (h : w.there g 0 (N * 33)) (hi : i < N) : w.there g (i * 33) 33 := fun j hj => by
 have := h (i * 33 + j) (by omega)
 simpa using this
theorem RwP.swap {w : World} {g N : Nat} {F : List En} {x y : En} {k : Nat} (h : RwP w g N F x (k + 1)) (hN : F.length + 1 = N) (hy : F[k]? = some y) (hF : ∀ z ∈ F, OkE z) (hx : OkE x) :
 RwP ((w.setCells g ((k + 1) * 33) (enL y)).setCells g (k * 33) (enL x)) g N F x k := by
 have hkl := (List.getElem?_eq_some_iff.1 hy).1
 have hyo := hF y (List.mem_of_getElem? hy)
 refine ⟨fun i z hi => ?_, World.there_setCells (World.there_setCells h.there _ _ _) _ _ _⟩
 have hz : OkE z := by
  unfold posL at hi
  split at hi
  ·exact hF z (List.mem_of_getElem? hi)
  ·split at hi
   ·injection hi with hi; rw [← hi]; exact hx
   ·exact hF z (List.mem_of_getElem? hi)
 have l1 := enL_length hx
 have l2 := enL_length hyo
 have l3 := enL_length hz
 by_cases h1 : i = k
 ·subst h1
  rw [posL_at] at hi; injection hi with hi; subst hi
  refine World.rangeAt_setCells_same _ _ _ _ ?_
  rw [l1]
  exact there_sub (World.there_setCells h.there _ _ _) (by omega)
 ·by_cases h2 : i = k + 1
  ·subst h2
   rw [posL_up, hy] at hi; injection hi with hi; subst hi
   refine World.rangeAt_setCells_apart (World.rangeAt_setCells_same _ _ _ _ ?_) _ _ _ (.inr (.inr (by omega)))
   rw [l2]
   exact there_sub h.there (by omega)
  ·rw [posL_swap h1 h2] at hi
   exact World.rangeAt_setCells_apart (World.rangeAt_setCells_apart (h.rng i z hi) _ _ _ (by omega)) _ _ _ (by omega)
theorem own_rw {w : World} {B : Nat} {v : Value} {F : List En} {x : En} (h : OwnE w B v (F ++ [x])) : ∃ g cap, v = .slice (some ⟨g, 0, none⟩) (F.length + 1) cap ∧ B ≤ g ∧ F.length + 1 ≤ cap ∧ RwP w g (F.length + 1) F x F.length := by
 obtain ⟨sp, cap, rfl⟩ := h.shape
 have hn : (F ++ [x]).length = F.length + 1 := by simp
 obtain ⟨_, ⟨e, e0⟩ | ⟨g, cap', cur, e, hB, hg, hle, _, hsz, _⟩⟩ := h.1
 ·simp at e0
 ·injection e with e1 e2 e3
  subst e1; subst e3
  have hens := (own_range (f := enL) h.1 (fun z hz => enL_length (h.2 z hz)) rfl)
  refine ⟨g, cap, by rw [hn], hB, by omega, fun i z hi => ?_, fun j hj => ?_⟩
  ·have h3 := hens.2.2 i z (by
    have := posL_list F x F.length (Nat.le_refl _) i
    rw [List.take_length, List.drop_length] at this
    rw [this]; exact hi)
   rw [Nat.zero_add] at h3
   exact h3
  ·have hj2 : j < cur.size := by
    have : (F.length + 1) * 33 ≤ cap * 33 := Nat.mul_le_mul_right _ (by omega)
    omega
   refine ⟨?_, frozen_of_row w g _ cur _ hg⟩
   rw [cell_of_row w g _ cur _ _ hg]
   simp [hj2]
theorem RwP.ens {w : World} {g N cap : Nat} {F : List En} {x : En} {k : Nat} (h : RwP w g N F x k) (hN : F.length + 1 = N) (hk : k ≤ F.length) (hF : ∀ z ∈ F, OkE z) (hx : OkE x) (hc : N ≤ cap) : EnsIn w w.heap.size (some ⟨g, 0, none⟩) N cap (F.take k ++ x :: F.drop k) :=
 ⟨by simp; omega, fun z hz => by
  rcases List.mem_append.1 hz with hz | hz
  ·exact hF z (List.mem_of_mem_take hz)
  ·rcases List.mem_cons.1 hz with rfl | hz
   ·exact hx
   ·exact hF z (List.mem_of_mem_drop hz), fun _ => ⟨g, 0, rfl, h.lt, hc, fun i z hi => by
  rw [posL_list F x k hk] at hi
  rw [Nat.zero_add]; exact h.rng i z hi⟩⟩
def sansP (s : List En) (p : ByteArray) : List En := s.filter fun y => !decide (y.p = p)
theorem put_ins {F : List En} {x : En} {k : Nat} (hs : Srt En.p F) (hk : k ≤ F.length) (hne : ∀ y ∈ F, y.p ≠ x.p) (h1 : ∀ y ∈ F.drop k, pls x.p y.p = true) (h2 : ∀ j y, k = j + 1 → F[j]? = some y → pls x.p y.p = false) : ins En.p F x = F.take k ++ x :: F.drop k := by
 have e : F = F.take k ++ F.drop k := (List.take_append_drop k F).symm
 rw [ins_at (f := En.p) (a := F.take k) (b := F.drop k) (x := x) ?_ e ?_, List.append_assoc]
 ·rfl
 ·cases k with
  | zero => rfl
  | succ j =>
    obtain ⟨y, hy⟩ : ∃ y, F[j]? = some y := ⟨F[j]'(by omega), List.getElem?_eq_getElem _⟩
    have hyx : pls y.p x.p = true := by
     by_cases h : pls y.p x.p = true
     ·exact h
     ·exact absurd (pls_tri (by simpa using h) (h2 j y rfl hy)) (hne y (List.mem_of_getElem? hy))
    rw [List.all_eq_true]
    intro z hz
    rw [List.take_add_one, hy] at hz
    rcases List.mem_append.1 hz with hz | hz
    ·obtain ⟨i, hi, rfl⟩ := List.getElem_of_mem hz
     have hi2 : i < j := by rw [List.length_take] at hi; omega
     have h3 := List.pairwise_iff_getElem.1 hs i j (by omega) (by omega) hi2
     rw [List.getElem_take]
     have e2 : F[j]'(by omega) = y := (List.getElem?_eq_some_iff.1 hy).2
     rw [e2] at h3
     exact pls_trans h3 hyx
    ·have : z = y := by simpa using hz
     rw [this]; exact hyx
 ·cases hd : F.drop k with
  | nil => rfl
  | cons z t =>
    have := h1 z (by rw [hd]; exact List.mem_cons_self)
    simp [pls_asymm this]
theorem below_setCells {B : Nat} {a w : World} (h : Below B a w) {g : Nat} (hg : B ≤ g) (o : Nat) (vs : List Value) : Below B a (w.setCells g o vs) := by
 induction vs generalizing w o with
 | nil => exact h
 | cons v vs ih => exact ih (h.setCell (p := ⟨g, o, none⟩) hg v) (o + 1)
theorem there_en {w : World} {g N i : Nat} {z : En} (h : w.there g 0 (N * 33)) (hi : i < N) (hz : OkE z) : w.there g (i * 33) (enL z).toArray.size := by rw [List.size_toArray, enL_length hz]; exact there_sub h hi
theorem sansP_ne {s : List En} {p : ByteArray} : ∀ y ∈ sansP s p, y.p ≠ p := fun y hy e => by
 unfold sansP at hy
 have := (List.mem_filter.1 hy).2
 simp [e] at this
theorem sansP_ok {s : List En} {p : ByteArray} (h : ∀ y ∈ s, OkE y) : ∀ y ∈ sansP s p, OkE y := fun y hy => h y (List.mem_filter.1 hy).1
theorem sansP_srt {s : List En} {p : ByteArray} (h : Srt En.p s) : Srt En.p (sansP s p) := List.Pairwise.filter _ h
theorem sansP_len (s : List En) (p : ByteArray) : (sansP s p).length ≤ s.length := List.length_filter_le _ _
def putT (s : List En) (x : En) : List En := ins En.p (sansP s x.p) x
theorem Put_any (sp : Option Addr) (n cap : Nat) (l : List En) (x : En) (w : World) (hl : EnsIn w w.heap.size sp n cap l) (hs : Srt En.p l) (hx : OkE x) (hn : n ≤ 400000) :
 Calls Tryz.prog 94 #[.slice sp n cap, .agg (enL x).toArray] w fun e w' => ∃ g n' cap', e = .returned (.slice (some ⟨g, 0, none⟩) n' cap') ∧ w.heap.size ≤ g ∧ EnsIn w' w'.heap.size (some ⟨g, 0, none⟩) n' cap' (putT l x) ∧ Below w.heap.size w w' := by
 have HL := zh hl; have HOX := zh hx; have HSR := zh hs
 have HIX := zh (info_e hx)
 have HNW := zh (EnB.new w x)
 have hb0 : Below w.heap.size w (w.alloc (.cells (enL x).toArray 82)) := (Below.refl _ w).alloc (Nat.le_refl _) _
 have HB0 := zh hb0
 clear hl hx hb0 hs
 go_enter Tryz.func94, Tryz.ntmps94
 go_wp2_with fail
 generalize hw0 : World.alloc w _ = w0
 have hx0 : EnB w0 w.heap.size x := by rw [← hw0]; exact HNW.out
 have hbl0 : Below w.heap.size w w0 := by rw [← hw0]; exact HB0.out
 have hs0 : w.heap.size + 1 ≤ w0.heap.size := by rw [← hw0]; simp
 have HBX := zh hx0; have HBL0 := zh hbl0
 have HL := zh (HL.out.below hbl0 (Nat.le_refl _))
 clear hw0 hx0 hbl0 HNW HB0
 go_loopw [5, 6] (fun v i wr => ∃ (k N : Nat) (out : List En) (sp' : Option Addr) (cap' : Nat), k ≤ n ∧ N ≤ k ∧ i = .int .i64 k ∧ v = .slice sp' N cap' ∧ Hid (N = out.length) ∧ Hid (OwnE wr (w.heap.size + 1) (.slice sp' N cap') out) ∧ Hid (sansP (l.take k) x.p = out) ∧ Hid (Below (w.heap.size + 1) w0 wr)) (fun _ i _ => n - (intOf i).toNat)
 case atStart => exact ⟨0, 0, [], _, _, Nat.zero_le _, Nat.le_refl _, rfl, rfl, rfl, OwnE.nil _ _, rfl, Below.refl _ _⟩
 case round =>
 obtain ⟨k, N, out, sp', cap', hk, hNk, rfl, rfl, HN, hown, HG, hbe⟩ := hrel
 have hbs : w.heap.size + 1 ≤ wr.heap.size := Nat.le_trans hs0 hbe.out.size
 have hxp := (HBX.out.below hbe.out (Nat.lt_succ_self _)).p
 by_cases hlt : k < n
 ·obtain ⟨y, hy⟩ : ∃ y, l[k]? = some y := ⟨l[k]'(by have := HL.out.len; omega), List.getElem?_eq_getElem _⟩
  have hd : decide ((k : Int) < (n : Int)) = true := by simp; omega
  obtain ⟨b, off, rfl, hbB, hcap, -⟩ := HL.out.cells (by omega)
  have hyr := range_belowS (HL.out.at hy).2 hbe.out (by omega)
  have hyp := rngE_p hyr
  have HYR := zh hyr
  have HOY := zh (HL.out.ok y (List.mem_of_getElem? hy))
  have HIY := zh (info_e HOY.out)
  have HST : Hid (sansP (l.take (k + 1)) x.p = if y.p = x.p then out else out ++ [y]) := by
   show _ = _
   unfold sansP
   rw [List.take_add_one, hy, List.filter_append]
   show sansP (l.take k) x.p ++ List.filter _ [y] = _
   rw [HG.out, List.filter_cons, List.filter_nil]
   by_cases h : y.p = x.p <;> simp [h]
  have p1 : (0 : Int) ≤ (k : Int) := by omega
  have p2 : (k : Int) < (n : Int) := by omega
  clear hy hyr
  by_cases hxe : y.p = x.p
  ·have hte : (y.p.toList == x.p.toList) = true := by rw [hxe]; simp
   have HST2 : Hid (sansP (l.take (k + 1)) x.p = out) := by show _ = _; rw [HST.out, if_pos hxe]
   clear hxe
   go_wp2_with fail
   go_quiet (fail)
   generalize hwd : World.drewN wr nq = wd
   have hbd : Below wr.heap.size wr wd := by rw [← hwd]; exact ⟨rfl, rfl, rfl, Nat.le_refl _, fun _ _ => rfl⟩
   have HBD := zh (hbe.out.trans (hbd.mono hbs))
   have HOD := zh (hown.out.below hbd)
   clear hwd hbd
   go_wp2_with fail
   go_roundw
   case rel => exact ⟨k + 1, N, out, sp', cap', by omega, by omega, by go_num, rfl, HN, HOD, HST2, HBD⟩
   case measure => simp [intOf]; omega
  ·have hte : (y.p.toList == x.p.toList) = false := by rw [beq_eq_false_iff_ne]; exact fun e => hxe (toList_inj e)
   have HST2 : Hid (sansP (l.take (k + 1)) x.p = out ++ [y]) := by show _ = _; rw [HST.out, if_neg hxe]
   clear hxe
   go_wp2_with fail
   go_quiet (fail)
   generalize hwd : World.drewN wr nq = wd
   have hbd : Below wr.heap.size wr wd := by rw [← hwd]; exact ⟨rfl, rfl, rfl, Nat.le_refl _, fun _ _ => rfl⟩
   have hsd : wd.heap.size = wr.heap.size := by rw [← hwd]; rfl
   have HBD := zh (hbe.out.trans (hbd.mono hbs))
   have HOD := zh (hown.out.below hbd)
   have HYD := zh (range_belowS HYR.out hbd (by omega))
   have hbsd : w.heap.size + 1 ≤ wd.heap.size := by omega
   clear hwd hbd hsd hxp hyp
   go_wp2_with (first
    | (refine wpList_load_mid rfl 82 _ rfl b (off + k * 33) rfl _ _ HYD.out Tryz.underlying82 rfl HIY.out ?_)
    | (refine wpList_slice_eq rfl 29 1 [(0, .tmp 26)] rfl [(0, .agg (enL y).toArray)] rfl _ _ (sliceE _ y HOY.out) ?_; generalize hw4 : World.alloc wd _ = w4; have he4 : EnB w4 wd.heap.size y := (by rw [← hw4]; exact heap_alloc_new _ _); have hb4 : Below wd.heap.size wd w4 := (by rw [← hw4]; exact (Below.refl _ _).alloc (Nat.le_refl _) _); have HE4 := zh he4; have HW4 := zh (HBD.out.trans (hb4.mono hbsd)); have HO4 := zh (HOD.out.below hb4); have hz4 := Nat.le_trans hbsd hb4.size; clear hw4 he4 hb4)
    | (at_builtin; refine wpList_append_en rfl (.tmp 22) (.tmp 27) rfl (w.heap.size + 1) _ _ N HN.out rfl HO4.out wd.heap.size y rfl HE4.out HOY.out (by omega) hz4 ?_; intro sp5 cap5 w5 HO5 HB5 HG5))
   have HB6 := zh (HW4.out.trans HB5.out)
   go_roundw
   case rel => exact ⟨k + 1, N + 1, out ++ [y], sp5, cap5, by omega, by omega, by go_num, rfl, by show _ = _; rw [List.length_append, HN.out]; rfl, HO5, HST2, HB6⟩
   case measure => simp [intOf]; omega
 ·obtain rfl : k = n := by omega
  have hd : decide ((k : Int) < (k : Int)) = false := by simp
  have HF : Hid (sansP l x.p = out) := by have := HG.out; rw [List.take_of_length_le (by rw [HL.out.len]; exact Nat.le_refl _)] at this; exact this
  clear hlt
  have HXR := zh (HBX.out.below hbe.out (Nat.lt_succ_self _)).all
  clear hxp
  go_wp2_with (first
   | (refine wpList_load_mid rfl 82 _ rfl w.heap.size 0 rfl _ _ HXR.out Tryz.underlying82 rfl HIX.out ?_)
   | (refine wpList_slice_eq rfl 29 1 [(0, .tmp 30)] rfl [(0, .agg (enL x).toArray)] rfl _ _ (sliceE _ x HOX.out) ?_; generalize hw4 : World.alloc wr _ = w4; have he4 : EnB w4 wr.heap.size x := (by rw [← hw4]; exact heap_alloc_new _ _); have hb4 : Below wr.heap.size wr w4 := (by rw [← hw4]; exact (Below.refl _ _).alloc (Nat.le_refl _) _); have HE4 := zh he4; have HW4 := zh (hbe.out.trans (hb4.mono hbs)); have HO4 := zh (hown.out.below hb4); have hz4 := Nat.le_trans hbs hb4.size; clear hw4 he4 hb4)
   | (at_builtin; refine wpList_append_en rfl (.tmp 29) (.tmp 31) rfl (w.heap.size + 1) _ _ N HN.out rfl HO4.out wr.heap.size x rfl HE4.out HOX.out (by omega) hz4 ?_; intro sp5 cap5 w5 HO5 HB5 HG5))
  obtain ⟨g, cap2, hv, hBg, hcap5, hrw⟩ := own_rw HO5.out
  injection hv with hv1 hv2 hv3
  subst hv1
  subst hv3
  have HB6 := zh (HW4.out.trans HB5.out)
  have HRW0 : Hid (RwP w5 g (N + 1) out x N) := by show RwP _ _ _ _ _ _; rw [HN.out]; exact hrw
  have HCP : Hid (N + 1 ≤ cap5) := by show _ ≤ _; rw [HN.out]; exact hcap5
  have hgB : w.heap.size + 1 ≤ g := hBg
  have HOO : Hid (∀ z ∈ out, OkE z) := by show ∀ z ∈ out, OkE z; rw [← HF.out]; exact sansP_ok HL.out.ok
  have HNE : Hid (∀ z ∈ out, z.p ≠ x.p) := by show ∀ z ∈ out, z.p ≠ x.p; rw [← HF.out]; exact sansP_ne
  have HSO : Hid (Srt En.p out) := by show Srt En.p out; rw [← HF.out]; exact sansP_srt HSR.out
  have HPT : Hid (putT l x = ins En.p out x) := by show _ = _; unfold putT; rw [HF.out]
  have hkk : N ≤ 400000 := by omega
  clear hv2 hrw HO4 HE4 HW4 hz4 HG5 hown hbe hd HXR
  go_loopw [7] (fun i wr => ∃ q : Nat, i = .int .i64 q ∧ q ≤ N ∧ Hid (RwP wr g (N + 1) out x q) ∧ Hid (∀ y ∈ out.drop q, pls x.p y.p = true) ∧ Hid (Below (w.heap.size + 1) w0 wr)) (fun i _ => (intOf i).toNat)
  case atStart => exact ⟨N, by go_num, Nat.le_refl _, HRW0, by show ∀ y ∈ out.drop N, _; rw [HN.out, List.drop_length]; intro y hy; (cases hy), HB6⟩
  case round =>
  clear HRW0 HB6
  obtain ⟨q, rfl, hq, HRW, HDR, hbe⟩ := hrel
  have HEND : Hid (∀ wd, Below wr.heap.size wr wd → (∀ j y, q = j + 1 → out[j]? = some y → pls x.p y.p = false) → EnsIn wd wd.heap.size (some ⟨g, 0, none⟩) (N + 1) cap5 (putT l x) ∧ Below w.heap.size w wd) := by
   intro wd hb h2
   have e := put_ins HSO.out (by rw [← HN.out]; exact hq) HNE.out HDR.out h2
   rw [HPT.out, e]
   have hbw : Below w.heap.size w wr := HBL0.out.trans (hbe.out.mono (Nat.le_succ _))
   exact ⟨(HRW.out.below hb).ens (by rw [HN.out]) (by rw [← HN.out]; exact hq) HOO.out HOX.out HCP.out, hbw.trans (hb.mono hbw.size)⟩
  have hbs2 : w.heap.size + 1 ≤ wr.heap.size := Nat.le_trans hs0 hbe.out.size
  cases q with
  | zero =>
    have hd0 : decide ((0 : Int) > 0) = false := by simp
    go_wp2_with fail
    go_quiet (fail)
    generalize hwd : World.drewN wr nq = wd
    have hbd : Below wr.heap.size wr wd := by rw [← hwd]; exact ⟨rfl, rfl, rfl, Nat.le_refl _, fun _ _ => rfl⟩
    have HE := zh (HEND.out wd hbd (fun j y h => by omega))
    clear hwd hbd
    go_wp2_with fail
    go_ret
    exact ⟨g, _, _, rfl, by omega, HE.out.1, HE.out.2⟩
  | succ j =>
    obtain ⟨y, hy⟩ : ∃ y, out[j]? = some y := ⟨out[j]'(by have := HN.out; omega), List.getElem?_eq_getElem _⟩
    have HY := zh hy
    have HOY := zh (HOO.out y (List.mem_of_getElem? hy))
    have HIY := zh (info_e HOY.out)
    have hyp := rngE_p (HRW.out.rng j y (posL_lt (Nat.lt_succ_self _) hy))
    have hxp := rngE_p (HRW.out.rng (j + 1) x posL_at)
    have q1 : IntKind.i64.wrap (j : Int) = (j : Int) := IntWalk.i64_in _ (by omega)
    have q6 : ((j : Int) + 1).toNat = j + 1 := by omega
    have p1 : (0 : Int) ≤ (j : Int) + 1 := by omega
    have p2 : (j : Int) + 1 < (N : Int) + 1 := by omega
    have p3 : (0 : Int) ≤ (j : Int) := by omega
    have p4 : (j : Int) < (N : Int) + 1 := by omega
    have p5 : (0 : Int) < (j : Int) + 1 := by omega
    have hd1 : decide ((j : Int) + 1 > 0) = true := decide_eq_true (by omega)
    clear hy
    obtain ⟨c, hc⟩ : ∃ c, pls x.p y.p = c := ⟨_, rfl⟩
    have hlt2 : Op.bytesLess x.p.toList y.p.toList = c := hc
    have HC := zh hc
    clear hc
    rw [show ((j + 1 : Nat) : Int) = (j : Int) + 1 from by omega]
    go_wp2_with fail
    go_quiet (fail)
    generalize hwd : World.drewN wr nq = wd
    have hbd : Below wr.heap.size wr wd := by rw [← hwd]; exact ⟨rfl, rfl, rfl, Nat.le_refl _, fun _ _ => rfl⟩
    have HBDR := zh hbd
    clear hwd hbd hlt2
    cases c with
    | false =>
      have HE := zh (HEND.out wd HBDR.out (fun j' y' h h2 => by
       have : j' = j := by omega
       subst this
       rw [HY.out] at h2; injection h2 with h2; rw [← h2]; exact HC.out))
      go_wp2_with fail
      go_ret
      exact ⟨g, _, _, rfl, by omega, HE.out.1, HE.out.2⟩
    | true =>
      have HRWD := zh (HRW.out.below (HBDR.out.drew))
      have HB9 := zh ((hbe.out.trans (HBDR.out.mono hbs2)).drew)
      have HIYs : Hid ((Tryz.prog.info? 82).map (·.size) = some (enL y).toArray.size) := by show _ = _; rw [List.size_toArray]; exact HIY.out
      have HIXs : Hid ((Tryz.prog.info? 82).map (·.size) = some (enL x).toArray.size) := by show _ = _; rw [List.size_toArray]; exact HIX.out
      have HRW2 : Hid (RwP ((wd.drew.setCells g ((j + 1) * 33) (enL y).toArray.toList).setCells g (j * 33) (enL x).toArray.toList) g (N + 1) out x j) := HRWD.out.swap (by rw [HN.out]) HY.out HOO.out HOX.out
      have HBW2 : Hid (Below (w.heap.size + 1) w0 ((wd.drew.setCells g ((j + 1) * 33) (enL y).toArray.toList).setCells g (j * 33) (enL x).toArray.toList)) := below_setCells (below_setCells HB9.out hgB _ _) hgB _ _
      have HDR2 : Hid (∀ y ∈ out.drop j, pls x.p y.p = true) := by
       show ∀ y ∈ out.drop j, pls x.p y.p = true
       intro z hz
       have hjl := (List.getElem?_eq_some_iff.1 HY.out).1
       rw [List.drop_eq_getElem_cons hjl] at hz
       rcases List.mem_cons.1 hz with h | h
       ·rw [h, (List.getElem?_eq_some_iff.1 HY.out).2]; exact HC.out
       ·exact HDR.out z h
      clear hyp hxp
      go_wp2_with fail
      refine wp_region_held_drew (S := fun w' => True) (by kernel_rfl) trivial (fun hHeld => ?_)
      refine zv 0 rfl ?_
      refine zv 1 rfl ?_
      refine zv 2 rfl ?_
      refine zv 3 rfl ?_
      refine zv 4 rfl ?_
      refine zv 5 rfl ?_
      refine zv 6 rfl ?_
      refine zv 7 rfl ?_
      refine zv 8 rfl ?_
      refine zv 10 rfl ?_
      refine zv 11 rfl ?_
      refine zv 12 rfl ?_
      refine zs 9 13 rfl (fun K hK => ?_) rfl (fun K hK => ?_)
      ·rw [if_pos (by rfl)]
       refine wp_load_mid 82 (.tmp 62) rfl g (j * 33) (by rfl) _ _ (HRWD.out.rng j y (posL_lt (Nat.lt_succ_self _) HY.out)) Tryz.underlying82 rfl HIY.out ?_
       refine hK.out _ _ trivial fun _ => ?_; clear hK K
       try simp only [Act.put, zuA, zuB, zuC, zuD, zuY, zuF]
       refine zr 13 rfl (fun K hK => ?_)
       rw [if_pos (by rfl)]
       refine wp_load_mid 82 (.tmp 66) rfl g ((j + 1) * 33) (by rfl) _ _ (HRWD.out.rng (j + 1) x posL_at) Tryz.underlying82 rfl HIX.out ?_
       refine hK.out _ _ trivial fun _ => ?_; clear hK K
       try simp only [Act.put, zuA, zuB, zuC, zuD, zuY, zuF]
       refine zv 14 rfl ?_
       refine zr 15 rfl (fun K hK => ?_)
       rw [if_pos (by rfl)]
       refine wp_store_mid 82 (.tmp 68) (.tmp 63) rfl g ((j + 1) * 33) (enL y).toArray (by rfl) (by rfl) (there_en HRWD.out.there (by omega) HOY.out) HIYs.out (enA_one _) ?_
       refine hK.out _ _ trivial fun _ => ?_; clear hK K
       try simp only [Act.put, zuA, zuB, zuC, zuD, zuY, zuF]
       refine zv 16 rfl ?_
       refine zr 17 rfl (fun K hK => ?_)
       rw [if_pos (by rfl)]
       refine wp_store_mid 82 (.tmp 69) (.tmp 67) rfl g (j * 33) (enL x).toArray (by rfl) (by rfl) (World.there_setCells (there_en HRWD.out.there (by omega) HOX.out) _ _ _) HIXs.out (enA_one _) ?_
       refine hK.out _ _ trivial fun _ => ?_; clear hK K
       try simp only [Act.put, zuA, zuB, zuC, zuD, zuY, zuF]
       refine zd ?_ _
       clear hHeld
       go_wp2_with fail
       go_roundw
       case rel => exact ⟨j, by go_num, by omega, HRW2, HDR2, HBW2⟩
       case measure => simp [intOf]
      ·rw [if_pos (by rfl)]
       refine wp_load_mid 82 (.tmp 66) rfl g ((j + 1) * 33) (by rfl) _ _ (HRWD.out.rng (j + 1) x posL_at) Tryz.underlying82 rfl HIX.out ?_
       refine hK.out _ _ trivial fun _ => ?_; clear hK K
       try simp only [Act.put, zuA, zuB, zuC, zuD, zuY, zuF]
       refine zr 9 rfl (fun K hK => ?_)
       rw [if_pos (by rfl)]
       refine wp_load_mid 82 (.tmp 62) rfl g (j * 33) (by rfl) _ _ (HRWD.out.rng j y (posL_lt (Nat.lt_succ_self _) HY.out)) Tryz.underlying82 rfl HIY.out ?_
       refine hK.out _ _ trivial fun _ => ?_; clear hK K
       try simp only [Act.put, zuA, zuB, zuC, zuD, zuY, zuF]
       refine zv 14 rfl ?_
       refine zr 15 rfl (fun K hK => ?_)
       rw [if_pos (by rfl)]
       refine wp_store_mid 82 (.tmp 68) (.tmp 63) rfl g ((j + 1) * 33) (enL y).toArray (by rfl) (by rfl) (there_en HRWD.out.there (by omega) HOY.out) HIYs.out (enA_one _) ?_
       refine hK.out _ _ trivial fun _ => ?_; clear hK K
       try simp only [Act.put, zuA, zuB, zuC, zuD, zuY, zuF]
       refine zv 16 rfl ?_
       refine zr 17 rfl (fun K hK => ?_)
       rw [if_pos (by rfl)]
       refine wp_store_mid 82 (.tmp 69) (.tmp 67) rfl g (j * 33) (enL x).toArray (by rfl) (by rfl) (World.there_setCells (there_en HRWD.out.there (by omega) HOX.out) _ _ _) HIXs.out (enA_one _) ?_
       refine hK.out _ _ trivial fun _ => ?_; clear hK K
       try simp only [Act.put, zuA, zuB, zuC, zuD, zuY, zuF]
       refine zd ?_ _
       clear hHeld
       go_wp2_with fail
       go_roundw
       case rel => exact ⟨j, by go_num, by omega, HRW2, HDR2, HBW2⟩
       case measure => simp [intOf]
structure Snap (l : List En) : Prop where
 srt : Srt En.p l
 path : ∀ x ∈ l, pathB x.p = true
 some : ∀ x ∈ l, x.d ≠ zed
theorem Snap.nil : Snap [] := ⟨List.Pairwise.nil, by simp, by simp⟩
theorem Snap.put {l : List En} {x : En} (h : Snap l) (hp : pathB x.p = true) (hd : x.d ≠ zed) : Snap (putT l x) := by
 refine ⟨(sansP_srt h.srt).ins sansP_ne, fun z hz => ?_, fun z hz => ?_⟩ <;> rcases mem_ins.1 hz with rfl | hz
 ·exact hp
 ·exact h.path z (List.mem_filter.1 hz).1
 ·exact hd
 ·exact h.some z (List.mem_filter.1 hz).1
theorem putT_length (l : List En) (x : En) : (putT l x).length ≤ l.length + 1 := by
 unfold putT
 rw [length_ins]
 have := sansP_len l x.p
 omega
theorem Snap.drop {l : List En} (h : Snap l) (i : Nat) : Snap (l.take i ++ l.drop (i + 1)) := by
 have hs : (l.take i ++ l.drop (i + 1)).Sublist l := by rw [← List.eraseIdx_eq_take_drop_succ]; exact List.eraseIdx_sublist l i
 exact ⟨List.Pairwise.sublist hs h.srt, fun z hz => h.path z (hs.subset hz), fun z hz => h.some z (hs.subset hz)⟩
def ApartT (tb : Nat) (sp : Option Addr) : Prop := ∀ b o, sp = some ⟨b, o, none⟩ → b ≠ tb
theorem EnsIn.turn {w w' : World} {tb : Nat} {sp : Option Addr} {n cap : Nat} {l : List En} (h : EnsIn w w.heap.size sp n cap l) (ha : ApartT tb sp) (hu : Turn tb w w') : EnsIn w' w'.heap.size sp n cap l :=
 ⟨h.len, h.ok, fun hn => by
  obtain ⟨b, off, e, hlt, hc, hr⟩ := h.cells hn
  exact ⟨b, off, e, Nat.lt_of_lt_of_le hlt hu.size, hc, fun i x hi j v hv => (World.cell?_of_block (a := ⟨b, off + i * 33 + j, none⟩) (hu.block b hlt (ha b off e))).trans (hr i x hi j v hv)⟩⟩
theorem OwnE.apart {w : World} {B n cap tb : Nat} {sp : Option Addr} {l : List En} (h : OwnE w B (.slice sp n cap) l) (hB : tb < B) : ApartT tb sp := by
 rintro b o rfl
 obtain ⟨_, ⟨e, _⟩ | ⟨g, c, u, e, hg, _⟩⟩ := h.1
 ·cases e
 ·injection e with e
  injection e with e; injection e with e
  omega
theorem snapshot_any (tb m q : Nat) (w : World) (ht : Tp w tb (q + 1 + 5 * m)) (hm : m ≤ 1000) :
 Calls Tryz.prog 58 #[.pointer (some ⟨tb, 0, none⟩), .int .i64 m] w fun e w' => ∃ sp n cap l, e = .returned (.slice sp n cap) ∧ EnsIn w' w'.heap.size sp n cap l ∧ ApartT tb sp ∧ Snap l ∧ n ≤ m ∧ Tp w' tb q ∧ Turn tb w w' := by
 have HT := zh ht; clear ht
 have hnx := next_any tb (m + 1) (q + 5 * m) w (HT.out.le (by omega)) (by omega) (by omega)
 rw [show ((m + 1 : Nat) : Int) = (m : Int) + 1 from by omega] at hnx
 have HNX := zh hnx
 have q0 : IntKind.i64.wrap ((m : Int) + 1) = (m : Int) + 1 := IntWalk.i64_in _ (by omega)
 clear hnx
 go_enter Tryz.func58, Tryz.ntmps58
 go_wp2_with fail
 refine HNX.out.mono ?_
 rintro e w1 ⟨r, rfl, hr, ht1, hu1⟩
 have HT1 := zh ht1; have HU1 := zh hu1; clear ht1 hu1 HNX
 go_wp2_with fail
 go_loopw [5, 6] (fun v i wr => ∃ (c N cap : Nat) (sp : Option Addr) (l : List En), N + c ≤ m ∧ i = .int .i64 c ∧ v = .slice sp N cap ∧ Hid (EnsIn wr wr.heap.size sp N cap l) ∧ Hid (ApartT tb sp) ∧ Hid (Snap l) ∧ Hid (Tp wr tb (q + 5 * c)) ∧ Hid (Turn tb w wr)) (fun _ i _ => (intOf i).toNat)
 case atStart => exact ⟨r, 0, 0, none, [], by omega, rfl, rfl, ⟨rfl, by simp, fun h => by omega⟩, (by rintro b o h; cases h), Snap.nil, HT1.out.le (by omega), HU1.out⟩
 case round =>
 clear HT1 HU1
 obtain ⟨c, N, cap, sp, l, hc, rfl, rfl, HE, HA, HSN, HTT, HU⟩ := hrel
 by_cases hn : 0 < c
 ·have hd : decide ((c : Int) > 0) = true := by simp; omega
  have q1 : IntKind.i64.wrap ((c : Int) - 1) = (c : Int) - 1 := IntWalk.i64_in _ (by omega)
  go_wp2_with fail
  refine (path_any tb (q + 5 * (c - 1) + 1) wr (HTT.out.le (by omega))).mono ?_
  rintro e w2 ⟨p, rfl, hp, ht2, hu2⟩
  have HPB := zh hp
  have HT2 := zh ht2; have HE2 := zh (HE.out.turn HA.out hu2); have HU2 := zh (HU.out.trans hu2)
  clear ht2 hu2 hp
  go_wp2_with fail
  refine (tsum_any tb (q + 5 * (c - 1)) w2 HT2.out).mono ?_
  rintro e w3 ⟨d, rfl, hd32, hdz, ht3, hu3⟩
  have HDO := zh hd32; have HDZ := zh hdz
  have HT3 := zh ht3; have HE3 := zh (HE2.out.turn HA.out hu3); have HU3 := zh (HU2.out.trans hu3)
  clear ht3 hu3 hd32 hdz
  go_wp2_with (refine wpList_build_eq rfl 82 [(0, .tmp 17), (1, .tmp 19)] rfl [(0, .string p), (1, .agg (d.map (Value.int .u8)).toArray)] rfl _ (buildE p d HDO.out.1 _) ?_)
  refine (Put_any sp N cap l ⟨p, d⟩ w3 HE3.out HSN.out.srt HDO.out (by omega)).mono ?_
  rintro e w4 ⟨g, n', cap', rfl, hg, he4, hb4⟩
  have HE4 := zh he4
  have HT4 := zh (HT3.out.of hb4)
  have HU4 := zh (HU3.out.trans (Turn.of hb4))
  have HSN4 := zh (HSN.out.put (x := ⟨p, d⟩) HPB.out HDZ.out)
  have htl := HT3.out.lt
  have hlen : n' ≤ N + 1 := by
   have h1 := HE4.out.len
   have h2 := putT_length l ⟨p, d⟩
   have h3 := HE3.out.len
   omega
  have HA4 : Hid (ApartT tb (some ⟨g, 0, none⟩)) := by
   show ApartT _ _
   rintro b o h
   injection h with h; injection h with h
   omega
  clear he4 hb4
  go_wp2_with fail
  go_roundw
  case rel => exact ⟨c - 1, n', cap', _, _, by omega, by go_num, rfl, HE4, HA4, HSN4, HT4, HU4⟩
  case measure => simp [intOf]; omega
 ·obtain rfl : c = 0 := by omega
  go_wp2_with fail
  go_ret
  exact ⟨_, _, _, l, rfl, HE.out, HA.out, HSN.out, by omega, HTT.out.le (by omega), HU.out⟩
theorem apart_new {tb g : Nat} (h : tb < g) : ApartT tb (some ⟨g, 0, none⟩) := by
 rintro b o h
 injection h with h; injection h with h
 omega
theorem edit_any (tb q : Nat) (sp0 : Option Addr) (n0 cap0 : Nat) (l0 : List En) (w : World) (ht : Tp w tb (q + 19)) (he : EnsIn w w.heap.size sp0 n0 cap0 l0) (ha : ApartT tb sp0) (hsn : Snap l0) (hn0 : n0 ≤ 1000) :
 Calls Tryz.prog 59 #[.pointer (some ⟨tb, 0, none⟩), .slice sp0 n0 cap0] w fun e w' => ∃ sp n cap l, e = .returned (.slice sp n cap) ∧ EnsIn w' w'.heap.size sp n cap l ∧ ApartT tb sp ∧ Snap l ∧ n ≤ n0 + 3 ∧ Tp w' tb q ∧ Turn tb w w' := by
 have HT := zh ht; have HE0 := zh he; have HA0 := zh ha; have HS0 := zh hsn; clear ht he ha hsn
 go_enter Tryz.func59, Tryz.ntmps59
 go_wp2_with fail
 refine (next_any tb 4 (q + 18) w HT.out (by omega) (by omega)).mono ?_
 rintro e w1 ⟨r, rfl, hr, ht1, hu1⟩
 have HT1 := zh ht1; have HU1 := zh hu1; have HE1 := zh (HE0.out.turn HA0.out hu1); clear ht1 hu1
 go_wp2_with fail
 go_loopw [1, 5] (fun v i wr => ∃ (c N cap : Nat) (sp : Option Addr) (l : List En), N + c ≤ n0 + 3 ∧ c ≤ 3 ∧ i = .int .i64 c ∧ v = .slice sp N cap ∧ Hid (EnsIn wr wr.heap.size sp N cap l) ∧ Hid (ApartT tb sp) ∧ Hid (Snap l) ∧ Hid (Tp wr tb (q + 6 * c)) ∧ Hid (Turn tb w wr)) (fun _ i _ => (intOf i).toNat)
 case atStart => exact ⟨r, n0, cap0, sp0, l0, by omega, by omega, rfl, rfl, HE1.out, HA0.out, HS0.out, HT1.out.le (by omega), HU1.out⟩
 case round =>
 clear HT1 HU1 HE1 HE0 HA0 HS0
 obtain ⟨c, N, cap, sp, l, hc, hc3, rfl, rfl, HE, HA, HSN, HTT, HU⟩ := hrel
 by_cases hn : 0 < c
 ·have hd : decide ((c : Int) > 0) = true := by simp; omega
  have q1 : IntKind.i64.wrap ((c : Int) - 1) = (c : Int) - 1 := IntWalk.i64_in _ (by omega)
  have hnx := next_any tb 3 (q + 6 * (c - 1) + 5) wr (HTT.out.le (by omega)) (by omega) (by omega)
  have HNX := zh hnx; clear hnx
  go_wp2_with fail
  refine HNX.out.mono ?_
  rintro e w2 ⟨t, rfl, htt, ht2, hu2⟩
  have HT2 := zh ht2; have HE2 := zh (HE.out.turn HA.out hu2); have HU2 := zh (HU.out.trans hu2)
  clear ht2 hu2 HNX
  by_cases hgo : t = 0 ∧ 0 < N
  ·obtain ⟨rfl, hN⟩ := hgo
   have hd2 : decide ((N : Int) > 0) = true := by simp; omega
   have htl := HT2.out.lt
   go_wp2_with fail
   refine (next_any tb N (q + 6 * (c - 1)) w2 (HT2.out.le (by omega)) (by omega) (by omega)).mono ?_
   rintro e w3 ⟨i, rfl, hi, ht3, hu3⟩
   have HT3 := zh ht3; have HE3 := zh (HE2.out.turn HA.out hu3); have HU3 := zh (HU2.out.trans hu3)
   clear ht3 hu3
   go_wp2_with fail
   refine (drop_any sp N cap l i w3 HE3.out hi (by omega)).mono ?_
   rintro e w4 ⟨sp4, cap4, rfl, ho4, hb4⟩
   have HT4 := zh (HT3.out.of hb4)
   have HU4 := zh (HU3.out.trans (Turn.of hb4))
   have htl3 := HT3.out.lt
   have HA4 := zh (ho4.apart htl3)
   have HE4 := zh (ho4.ens (by
    have := HE3.out.len
    rw [List.length_append, List.length_take, List.length_drop]; omega))
   have HSN4 := zh (HSN.out.drop i)
   clear ho4 hb4
   go_wp2_with fail
   go_roundw
   case rel => exact ⟨c - 1, N - 1, cap4, _, _, by omega, by omega, by go_num, rfl, HE4, HA4, HSN4, HT4, HU4⟩
   case measure => simp [intOf]; omega
  ·have hcond : (t ≠ 0) ∨ (t = 0 ∧ N = 0) := by omega
   have HP : Hid (∀ w3, Tp w3 tb (q + 6 * (c - 1) + 5) → Calls Tryz.prog 95 #[.pointer (some ⟨tb, 0, none⟩)] w3 fun e w' => ∃ s : ByteArray, e = .returned (.string s) ∧ pathB s = true ∧ Tp w' tb (q + 6 * (c - 1) + 1) ∧ Turn tb w3 w') := fun w3 h => path_any tb (q + 6 * (c - 1) + 1) w3 h
   rcases hcond with h0 | ⟨rfl, rfl⟩
   ·have hd2 : ((t : Int) == 0) = false := by simp; omega
    clear hgo
    go_wp2_with fail
    refine (HP.out w2 HT2.out).mono ?_
    rintro e w3 ⟨p, rfl, hp, ht3, hu3⟩
    have HPB := zh hp
    have HT3 := zh ht3; have HE3 := zh (HE2.out.turn HA.out hu3); have HU3 := zh (HU2.out.trans hu3)
    clear ht3 hu3 hp
    go_wp2_with fail
    refine (tsum_any tb (q + 6 * (c - 1)) w3 HT3.out).mono ?_
    rintro e w4 ⟨d, rfl, hd32, hdz, ht4, hu4⟩
    have HDO := zh hd32; have HDZ := zh hdz
    have HT4 := zh ht4; have HE4 := zh (HE3.out.turn HA.out hu4); have HU4 := zh (HU3.out.trans hu4)
    clear ht4 hu4 hd32 hdz
    go_wp2_with (refine wpList_build_eq rfl 82 [(0, .tmp 28), (1, .tmp 30)] rfl [(0, .string p), (1, .agg (d.map (Value.int .u8)).toArray)] rfl _ (buildE p d HDO.out.1 _) ?_)
    refine (Put_any sp N cap l ⟨p, d⟩ w4 HE4.out HSN.out.srt HDO.out (by omega)).mono ?_
    rintro e w5 ⟨g, n', cap', rfl, hg, he5, hb5⟩
    have HE5 := zh he5
    have HT5 := zh (HT4.out.of hb5)
    have HU5 := zh (HU4.out.trans (Turn.of hb5))
    have HSN5 := zh (HSN.out.put (x := ⟨p, d⟩) HPB.out HDZ.out)
    have htl := HT4.out.lt
    have hlen : n' ≤ N + 1 := by
     have h1 := HE5.out.len
     have h2 := putT_length l ⟨p, d⟩
     have h3 := HE4.out.len
     omega
    have HA5 := zh (apart_new (show tb < g by omega))
    clear he5 hb5
    go_wp2_with fail
    go_roundw
    case rel => exact ⟨c - 1, n', cap', _, _, by omega, by omega, by go_num, rfl, HE5, HA5, HSN5, HT5, HU5⟩
    case measure => simp [intOf]; omega
   ·clear hgo
    go_wp2_with fail
    refine (HP.out w2 HT2.out).mono ?_
    rintro e w3 ⟨p, rfl, hp, ht3, hu3⟩
    have HPB := zh hp
    have HT3 := zh ht3; have HE3 := zh (HE2.out.turn HA.out hu3); have HU3 := zh (HU2.out.trans hu3)
    clear ht3 hu3 hp
    go_wp2_with fail
    refine (tsum_any tb (q + 6 * (c - 1)) w3 HT3.out).mono ?_
    rintro e w4 ⟨d, rfl, hd32, hdz, ht4, hu4⟩
    have HDO := zh hd32; have HDZ := zh hdz
    have HT4 := zh ht4; have HE4 := zh (HE3.out.turn HA.out hu4); have HU4 := zh (HU3.out.trans hu4)
    clear ht4 hu4 hd32 hdz
    go_wp2_with (refine wpList_build_eq rfl 82 [(0, .tmp 28), (1, .tmp 30)] rfl [(0, .string p), (1, .agg (d.map (Value.int .u8)).toArray)] rfl _ (buildE p d HDO.out.1 _) ?_)
    refine (Put_any sp 0 cap l ⟨p, d⟩ w4 HE4.out HSN.out.srt HDO.out (by omega)).mono ?_
    rintro e w5 ⟨g, n', cap', rfl, hg, he5, hb5⟩
    have HE5 := zh he5
    have HT5 := zh (HT4.out.of hb5)
    have HU5 := zh (HU4.out.trans (Turn.of hb5))
    have HSN5 := zh (HSN.out.put (x := ⟨p, d⟩) HPB.out HDZ.out)
    have htl := HT4.out.lt
    have hlen : n' ≤ 1 := by
     have h1 := HE5.out.len
     have h2 := putT_length l ⟨p, d⟩
     have h3 := HE4.out.len
     omega
    have HA5 := zh (apart_new (show tb < g by omega))
    clear he5 hb5
    go_wp2_with fail
    go_roundw
    case rel => exact ⟨c - 1, n', cap', _, _, by omega, by omega, by go_num, rfl, HE5, HA5, HSN5, HT5, HU5⟩
    case measure => simp [intOf]; omega
 ·obtain rfl : c = 0 := by omega
  go_wp2_with fail
  go_ret
  exact ⟨_, _, _, l, rfl, HE.out, HA.out, HSN.out, by omega, HTT.out.le (by omega), HU.out⟩
end Go.Proofs.YtecllfbadciaoaaGreatDoor
