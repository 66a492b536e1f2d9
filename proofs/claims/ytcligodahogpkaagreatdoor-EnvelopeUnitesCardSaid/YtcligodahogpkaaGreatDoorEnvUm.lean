/-
  Envelopes: the signers of what Join answers are those of both (plain).
-/
import Derived.Test.YtcligodahogpkaaGreatDoorEnvSd
set_option maxRecDepth 100000
set_option maxHeartbeats 8000000
namespace Go.Proofs.YtcligodahogpkaaGreatDoor
open Go.RowKit Go.Proofs.YtcligodahogpkaaGreatDoor.One
def AscD (l : List (List Int)) : Prop := l.Pairwise fun a b => dls a b = true
theorem AscD.ext : ∀ {l m : List (List Int)}, AscD l → AscD m → (∀ x, x ∈ l ↔ x ∈ m) → l = m
 | [], [], _, _, _ => rfl
 | [], b :: m, _, _, h => by have := (h b).2 (List.mem_cons_self ..); cases this
 | a :: l, [], _, _, h => by have := (h a).1 (List.mem_cons_self ..); cases this
 | a :: l, b :: m, hl, hm, h => by
   have h1 := List.pairwise_cons.1 hl
   have h2 := List.pairwise_cons.1 hm
   have e : a = b := by
    rcases List.mem_cons.1 ((h a).1 (List.mem_cons_self ..)) with e | e
    ·exact e
    ·rcases List.mem_cons.1 ((h b).2 (List.mem_cons_self ..)) with e' | e'
     ·exact e'.symm
     ·have := gJ (h2.1 a e) (h1.1 b e')
      rw [mQ] at this; cases this
   subst e
   congr 1
   refine AscD.ext h1.2 h2.2 fun x => ⟨fun hx => ?_, fun hx => ?_⟩
   ·rcases List.mem_cons.1 ((h x).1 (List.mem_cons_of_mem _ hx)) with rfl | hx'
    ·exact absurd rfl (qV (h1.1 x hx))
    ·exact hx'
   ·rcases List.mem_cons.1 ((h x).2 (List.mem_cons_of_mem _ hx)) with rfl | hx'
    ·exact absurd rfl (qV (h2.1 x hx))
    ·exact hx'
theorem IB {D T : List (List Int)} {d : List Int} (h : AscD D) (hT : OV D d T) : AscD T ∧ ∀ e, e ∈ T ↔ e ∈ D ∨ e = d := by
 rcases hT with ⟨h1, rfl⟩ | ⟨h1, k, h2, h3, rfl⟩
 ·exact ⟨h, fun e => ⟨.inl, fun he => he.elim id fun e' => e' ▸ h1⟩⟩
 ·have hs : D = D.take k ++ D.drop k := (List.take_append_drop k D).symm
  have hp : (D.take k).Pairwise (fun a b => dls a b = true) ∧ (D.drop k).Pairwise (fun a b => dls a b = true) ∧ ∀ a ∈ D.take k, ∀ b ∈ D.drop k, dls a b = true := by
   have h' := h; unfold AscD at h'; rw [hs] at h'
   exact List.pairwise_append.1 h'
  have hdr : ∀ b ∈ D.drop k, dls d b = true := by
   intro b hb
   have hne : ∀ y ∈ D, y ≠ d := fun y hy e => h1 (e ▸ hy)
   cases hd : D.drop k with
   | nil => rw [hd] at hb; cases hb
   | cons y t =>
     have hy : D[k]? = some y := by
      have := congrArg (fun l => l[0]?) hd
      simpa [List.getElem?_drop] using this
     have hyd := h3 y hy
     have hyD : y ∈ D := List.mem_of_getElem? hy
     have hdy : dls d y = true := DP hyd (hne y hyD)
     rw [hd] at hb hp
     rcases List.mem_cons.1 hb with rfl | hb
     ·exact hdy
     ·exact gJ hdy ((List.pairwise_cons.1 hp.2.1).1 b hb)
  refine ⟨List.pairwise_append.2 ⟨hp.1, List.pairwise_cons.2 ⟨hdr, hp.2.1⟩, fun a ha b hb => ?_⟩, fun e => ?_⟩
  ·rcases List.mem_cons.1 hb with rfl | hb
   ·exact h2 a ha
   ·exact hp.2.2 a ha b hb
  ·rw [List.mem_append, List.mem_cons]
   constructor
   ·rintro (he | rfl | he)
    ·exact .inl (List.mem_of_mem_take he)
    ·exact .inr rfl
    ·exact .inl (List.mem_of_mem_drop he)
   ·rintro (he | rfl)
    ·rw [hs] at he
     rcases List.mem_append.1 he with he | he
     ·exact .inl he
     ·exact .inr (.inr he)
    ·exact .inr (.inl rfl)
theorem GE {d : List Int} {L : List Pg} (h : lZ L) : AscD (kO d L) := by
 unfold kO AscD
 refine List.pairwise_map.2 ?_
 exact h.sublist List.filter_sublist
theorem oA {d : List Int} {L : List Pg} {x : List Int} : x ∈ kO d L ↔ ∃ z ∈ L, kT d z = true ∧ idP z = x := by
 unfold kO
 rw [List.mem_map]
 constructor
 ·rintro ⟨z, hz, e⟩
  obtain ⟨h1, h2⟩ := List.mem_filter.1 hz
  exact ⟨z, h1, h2, e⟩
 ·rintro ⟨z, h1, h2, e⟩
  exact ⟨z, List.mem_filter.2 ⟨h1, h2⟩, e⟩
theorem LJ {d : List Int} {L : List Pg} {x : Pg} {e : List Int} (hs : lZ L) : e ∈ kO d (jnS d L x) ↔ e ∈ kO d L ∨ (kT d x = true ∧ idP x = e) := by
 rw [oA, oA]
 cases hh : pM L x with
 | false =>
   rw [CO hh]
   constructor
   ·rintro ⟨z, hz, h1, h2⟩
    rcases kD hz with hz | rfl
    ·exact .inl ⟨z, hz, h1, h2⟩
    ·exact .inr ⟨h1, h2⟩
   ·have hmem : ∀ z, z ∈ L ∨ z = x → z ∈ nA L x := by
     intro z hz
     unfold nA
     rw [List.mem_append, List.mem_cons]
     rcases hz with hz | rfl
     ·have h0 := List.takeWhile_append_dropWhile (p := fun y => dls (idP y) (idP x)) (l := L)
      rw [← h0] at hz
      rcases List.mem_append.1 hz with hz | hz
      ·exact .inl hz
      ·exact .inr (.inr hz)
     ·exact .inr (.inl rfl)
    rintro (⟨z, hz, h1, h2⟩ | ⟨h1, h2⟩)
    ·exact ⟨z, hmem z (.inl hz), h1, h2⟩
    ·exact ⟨x, hmem x (.inr rfl), h1, h2⟩
 | true =>
   have hj : jnS d L x = L.map fun z => if idP z = idP x ∧ kT d z = false ∧ kT d x = true then x else z := by
    unfold jnS; rw [if_neg (by rw [hh]; simp)]
   obtain ⟨u, hu, hue⟩ : ∃ u ∈ L, idP u = idP x := by
    unfold pM at hh
    obtain ⟨u, hu, hue⟩ := List.any_eq_true.1 hh
    exact ⟨u, hu, by simpa using hue⟩
   rw [hj]
   constructor
   ·rintro ⟨z, hz, h1, h2⟩
    obtain ⟨y, hy, rfl⟩ := List.mem_map.1 hz
    by_cases hc : idP y = idP x ∧ kT d y = false ∧ kT d x = true
    ·rw [if_pos hc] at h1 h2
     exact .inr ⟨h1, h2⟩
    ·rw [if_neg hc] at h1 h2
     exact .inl ⟨y, hy, h1, h2⟩
   ·rintro (⟨z, hz, h1, h2⟩ | ⟨h1, h2⟩)
    ·refine ⟨_, List.mem_map.2 ⟨z, hz, rfl⟩, ?_⟩
     rw [if_neg (by rw [h1]; simp)]
     exact ⟨h1, h2⟩
    ·refine ⟨_, List.mem_map.2 ⟨u, hu, rfl⟩, ?_⟩
     by_cases hc : idP u = idP x ∧ kT d u = false ∧ kT d x = true
     ·rw [if_pos hc]; exact ⟨h1, h2⟩
     ·rw [if_neg hc]
      refine ⟨?_, hue.trans h2⟩
      cases hv : kT d u with
      | true => rfl
      | false => exact absurd ⟨hue, hv, h1⟩ hc
theorem wI {d : List Int} : ∀ {M L : List Pg}, lZ L → lZ (jnL d L M)
 | [], _, h => h
 | x :: M, L, h => wI (M := M) (L := jnS d L x) (wH h)
theorem CQ {d : List Int} {e : List Int} : ∀ {M L : List Pg}, lZ L → (e ∈ kO d (jnL d L M) ↔ e ∈ kO d L ∨ e ∈ kO d M)
 | [], L, _ => by simp [jnL, kO]
 | x :: M, L, h => by
   have h1 := CQ (d := d) (e := e) (M := M) (L := jnS d L x) (wH h)
   rw [show jnL d L (x :: M) = jnL d (jnS d L x) M from rfl, h1, LJ h]
   have h2 : e ∈ kO d (x :: M) ↔ (kT d x = true ∧ idP x = e) ∨ e ∈ kO d M := by
    rw [oA, oA]
    constructor
    ·rintro ⟨z, hz, g1, g2⟩
     rcases List.mem_cons.1 hz with rfl | hz
     ·exact .inl ⟨g1, g2⟩
     ·exact .inr ⟨z, hz, g1, g2⟩
    ·rintro (⟨g1, g2⟩ | ⟨z, hz, g1, g2⟩)
     ·exact ⟨x, List.mem_cons_self .., g1, g2⟩
     ·exact ⟨z, List.mem_cons_of_mem _ hz, g1, g2⟩
   rw [h2, or_assoc]
structure TwoV (B0 : List UInt8) (L M : List Pg) : Prop where
 l : eY bQ B0 L = true
 m : eY bQ B0 M = true
 ln : L.length ≤ 3
 mn : M.length ≤ 3
theorem TwoV.swap {B0 : List UInt8} {L M : List Pg} (h : TwoV B0 L M) : TwoV B0 M L := ⟨h.m, h.l, h.mn, h.ln⟩
theorem TwoV.vld {B0 : List UInt8} {L M : List Pg} (h : TwoV B0 L M) : eY bQ B0 (jnL (dQ bQ B0) L M) = true := by
 obtain ⟨v1, v2, v3, v4⟩ := fV.1 h.l
 obtain ⟨u1, u2, u3, u4⟩ := fV.1 h.m
 have hlen := wJ (d := dQ bQ B0) (M := M) (L := L)
 have h1 := h.ln; have h2 := h.mn
 exact fV.2 ⟨v1, v2, by omega, AV (fun z hz => (CP hz).elim (oI v4 z) (oI u4 z)) (wI (kS v4))⟩
theorem TwoV.E {B0 : List UInt8} {L M : List Pg} (h : TwoV B0 L M) : jnV bQ bQ B0 B0 L M = ⟨0, bQ, B0, jnL (dQ bQ B0) L M⟩ := by
 have hlen := wJ (d := dQ bQ B0) (M := M) (L := L)
 have h1 := h.ln; have h2 := h.mn
 have he : jnE bQ bQ B0 B0 L M = 0 := by
  unfold jnE
  rw [if_neg (by rw [h.l, h.m]; simp), if_neg (by simp), if_neg (by omega)]
 unfold jnV
 rw [if_pos he]
theorem TwoV.sgr {B0 : List UInt8} {L M : List Pg} (h : TwoV B0 L M) : AscD (kL bQ B0 (jnL (dQ bQ B0) L M)) ∧ ∀ e, e ∈ kL bQ B0 (jnL (dQ bQ B0) L M) ↔ e ∈ kL bQ B0 L ∨ e ∈ kL bQ B0 M := by
 have hs := kS (fV.1 h.l).2.2.2
 have e1 : kL bQ B0 (jnL (dQ bQ B0) L M) = kO (dQ bQ B0) (jnL (dQ bQ B0) L M) := by unfold kL; rw [if_pos h.vld]
 have e2 : kL bQ B0 L = kO (dQ bQ B0) L := by unfold kL; rw [if_pos h.l]
 have e3 : kL bQ B0 M = kO (dQ bQ B0) M := by unfold kL; rw [if_pos h.m]
 rw [e1, e2, e3]
 exact ⟨GE (wI hs), fun e => CQ hs⟩
structure AllD (D : List (List Int)) (T : List (List Int)) : Prop where
 a : AscD T
 m : ∀ e, e ∈ T ↔ e ∈ D
theorem AllD.nil : AllD [] [] := ⟨List.Pairwise.nil, fun e => Iff.rfl⟩
theorem AllD.add {D T T' : List (List Int)} {d : List Int} (h : AllD D T) (hT : OV T d T') : AllD (D ++ [d]) T' := by
 obtain ⟨h1, h2⟩ := IB h.a hT
 exact ⟨h1, fun e => by rw [h2, h.m, List.mem_append, List.mem_singleton]⟩
theorem AllD.eq {B0 : List UInt8} {L M : List Pg} {T : List (List Int)} (h : TwoV B0 L M) (hT : AllD (kL bQ B0 L ++ kL bQ B0 M) T) : kL bQ B0 (jnL (dQ bQ B0) L M) = T ∧ kL bQ B0 (jnL (dQ bQ B0) M L) = T := by
 obtain ⟨h1, h2⟩ := h.sgr
 obtain ⟨h3, h4⟩ := h.swap.sgr
 exact ⟨AscD.ext h1 hT.a fun e => by rw [h2, hT.m, List.mem_append], AscD.ext h3 hT.a fun e => by rw [h4, hT.m, List.mem_append, or_comm]⟩
theorem yO (x : Int) : bits .and .i64 x 1 = 0 ∨ bits .and .i64 x 1 = 1 := by
 have h : ((BitVec.ofInt 64 x) &&& (BitVec.ofInt 64 1)).toNat ≤ 1 := by
  rw [BitVec.toNat_and]
  exact Nat.and_le_right
 have hb : bits .and .i64 x 1 = IntKind.i64.wrap (((BitVec.ofInt 64 x) &&& (BitVec.ofInt 64 1)).toNat : Int) := rfl
 rw [hb]
 generalize ((BitVec.ofInt 64 x) &&& (BitVec.ofInt 64 1)).toNat = n at h
 rcases n with _ | _ | n
 ·exact .inl rfl
 ·exact .inr rfl
 ·omega
def MdU (B0 : List UInt8) (w : World) (e : Ending) (w' : World) : Prop := (∃ x : EvS, e = .returned (.agg x.L.toArray) ∧ x.ok w' ∧ x.t = bQ ∧ x.b = B0 ∧ x.m ≤ 3 ∧ eY bQ B0 (x.l.map pg) = true) ∧ Below w.heap.size w w'
theorem MdO.U {kk : Int} {B0 : List UInt8} {w w' : World} {e : Ending} (h : MdO kk B0 w e w') (hk : kk = 0 ∨ kk = 1) : MdU B0 w e w' := by
 obtain ⟨t, a1, n1, c1, a2, n2, c2, b', l', he, hev, ht, h1, h2, hlt, hb, h3, h4⟩ := h.h
 obtain ⟨⟨sp, n, cap, e1, hp, hpn⟩, ⟨sq, m, cq, e2, hs, hsn⟩⟩ := hev.out
 injection e1 with e1 e3 e4; subst e1 e3 e4
 injection e2 with e1 e3 e4; subst e1 e3 e4
 have hv : t = bQ ∧ b' = B0 ∧ eY bQ B0 (l'.map pg) = true := by
  rcases hk with rfl | rfl
  ·obtain ⟨q1, q2, q3⟩ := h3 (by decide)
   exact ⟨q1, q2, q3.v⟩
  ·exact h4 (by decide)
 exact ⟨⟨⟨t, a1, n1, c1, b', a2, n2, c2, l'⟩, he, ⟨ht, by show n1 ≤ 100000; omega, by show n2 ≤ 12; omega, hp, hpn, hs, hsn, fun y hy => by have := hlt y hy; omega⟩, hv.1, hv.2.1, h2, hv.2.2⟩, hb⟩
structure CB2 (w : World) (CC DC : Array Value) (w' : World) : Prop where
 c : w'.heap[w.heap.size]? = some (.cells CC 27 (0, 0))
 d : w'.heap[w.heap.size + 1]? = some (.cells DC 27 (0, 0))
 b : Below w.heap.size w w'
 k : w.heap.size + 2 ≤ w'.heap.size
theorem CB2.new (w : World) (CC DC : Array Value) : CB2 w CC DC ((w.alloc (.cells CC 27)).alloc (.cells DC 27)) := by
 have h1 := heap_alloc_new w (.cells CC 27)
 have h2 := heap_alloc_new (w.alloc (.cells CC 27)) (.cells DC 27)
 rw [World.size_alloc] at h2
 exact ⟨(heap_alloc_old _ _ (by simp)).trans h1, h2, ((Below.refl _ _).alloc (Nat.le_refl _) _).alloc (by simp) _, by simp only [World.size_alloc]; omega⟩
theorem CB2.below {w : World} {CC DC : Array Value} {w1 w2 : World} (h : CB2 w CC DC w1) (hb : Below w1.heap.size w1 w2) : CB2 w CC DC w2 := by
 have h1 := h.k; have h2 := hb.size
 exact ⟨(hb.block _ (by omega)).trans h.c, (hb.block _ (by omega)).trans h.d, h.b.trans (hb.mono (by omega)), by omega⟩
theorem CB2.drew {w : World} {CC DC : Array Value} {w1 : World} (h : CB2 w CC DC w1) : CB2 w CC DC w1.drew := ⟨h.c, h.d, h.b.drew, h.k⟩
theorem CB2.setP {w : World} {CC : Array Value} {p s p' : Value} {k y : Int} {w1 : World} (hh : CB2 w CC (caA p s k y) w1) : CB2 w CC (caA p' s k y) (w1.setCell ⟨w.heap.size + 1, 0, none⟩ p') :=
 ⟨(heap_setCell_other _ _ _ _ (by show w.heap.size ≠ w.heap.size + 1; omega)).trans hh.c, by rw [heap_setCell_same _ _ _ _ _ _ hh.d]; rfl, hh.b.setCell (by show w.heap.size ≤ w.heap.size + 1; omega) _, Nat.le_trans hh.k (eF _ _ _)⟩
theorem CB2.setC {w : World} {DC : Array Value} {p s : Value} {k y k' : Int} {w1 : World} (hh : CB2 w (caA p s k y) DC w1) : CB2 w (caA p s k' y) DC (w1.setCell ⟨w.heap.size, 2, none⟩ (.int .i64 k')) :=
 ⟨by rw [heap_setCell_same _ _ _ _ _ _ hh.c]; rfl, (heap_setCell_other _ _ _ _ (by show w.heap.size + 1 ≠ w.heap.size; omega)).trans hh.d, hh.b.setCell (by show w.heap.size ≤ w.heap.size; omega) _, Nat.le_trans hh.k (eF _ _ _)⟩
theorem CB2.setD {w : World} {CC : Array Value} {p s : Value} {k y k' : Int} {w1 : World} (hh : CB2 w CC (caA p s k y) w1) : CB2 w CC (caA p s k' y) (w1.setCell ⟨w.heap.size + 1, 2, none⟩ (.int .i64 k')) :=
 ⟨(heap_setCell_other _ _ _ _ (by show w.heap.size ≠ w.heap.size + 1; omega)).trans hh.c, by rw [heap_setCell_same _ _ _ _ _ _ hh.d]; rfl, hh.b.setCell (by show w.heap.size ≤ w.heap.size + 1; omega) _, Nat.le_trans hh.k (eF _ _ _)⟩
theorem JX (s1 : Option Addr) (n1 c1 : Nat) (s2 : Option Addr) (n2 c2 : Nat) (w : World) : (Instr.buildSlice 40 2 #[(0, .slice s1 n1 c1), (1, .slice s2 n2 c2)]).run Tryz.prog w = .ok (.slice (some ⟨w.heap.size, 0, none⟩) 2 2) (w.alloc (.cells #[.slice s1 n1 c1, .slice s2 n2 c2] 38)) := by kernel_rfl
structure DgR (S1 S2 : List (List Int)) (w : World) (g : Nat) : Prop where
 e : ∀ k, k < 2 → ∃ sp cap, w.cell? ⟨g, k, none⟩ = some (.slice sp (if k = 0 then S1 else S2).length cap) ∧ DigsIn w w.heap.size sp (if k = 0 then S1 else S2).length cap (if k = 0 then S1 else S2)
 g : g < w.heap.size
theorem DgR.below {S1 S2 : List (List Int)} {w w' : World} {g : Nat} (h : DgR S1 S2 w g) (hb : Below w.heap.size w w') : DgR S1 S2 w' g :=
 ⟨fun k hk => by
  obtain ⟨sp, cap, h1, h2⟩ := h.e k hk
  exact ⟨sp, cap, (hb.cell (p := ⟨g, k, none⟩) h.g).trans h1, h2.upD hb hb.size⟩, Nat.lt_of_lt_of_le h.g hb.size⟩
theorem DgR.of {S1 S2 : List (List Int)} {w : World} {g : Nat} {s1 s2 : Option Addr} {c1 c2 : Nat} (hg : w.heap[g]? = some (.cells #[.slice s1 S1.length c1, .slice s2 S2.length c2] 38 (0, 0))) (h1 : DigsIn w w.heap.size s1 S1.length c1 S1) (h2 : DigsIn w w.heap.size s2 S2.length c2 S2) : DgR S1 S2 w g :=
 ⟨fun k hk => by
  rcases k with _ | _ | k
  ·exact ⟨s1, c1, aH (L := [.slice s1 S1.length c1, .slice s2 S2.length c2]) hg rfl, h1⟩
  ·exact ⟨s2, c2, aH (L := [.slice s1 S1.length c1, .slice s2 S2.length c2]) hg rfl, h2⟩
  ·omega, (Array.getElem?_eq_some_iff.1 hg).1⟩
def DF (S1 S2 : List (List Int)) (k : Nat) : List (List Int) := if k = 0 then [] else if k = 1 then S1 else S1 ++ S2
theorem DE {S1 S2 : List (List Int)} {k : Nat} (hk : k < 2) : DF S1 S2 (k + 1) = DF S1 S2 k ++ (if k = 0 then S1 else S2) := by
 rcases k with _ | _ | k
 ·rfl
 ·rfl
 ·omega
structure GthIn (D : List (List Int)) (v : Value) (w : World) : Prop where
 h : ∃ sp m cap T, v = .slice sp m cap ∧ DigsIn w w.heap.size sp m cap T ∧ (sp = none → cap = 0) ∧ AllD D T ∧ T.length ≤ D.length
theorem GthIn.below {D : List (List Int)} {v : Value} {w w' : World} (h : GthIn D v w) (hb : Below w.heap.size w w') : GthIn D v w' := by
 obtain ⟨sp, m, cap, T, h1, h2, h3, h4, h5⟩ := h.h
 exact ⟨sp, m, cap, T, h1, h2.upD hb hb.size, h3, h4, h5⟩
theorem IA {l T : List (List Int)} {d : List Int} (h : OV l d T) : T.length ≤ l.length + 1 := by
 rcases h with ⟨_, rfl⟩ | ⟨_, k, _, _, rfl⟩
 ·omega
 ·have := congrArg List.length (List.take_append_drop k l)
  rw [List.length_append] at this ⊢
  rw [List.length_cons]; omega
end Go.Proofs.YtcligodahogpkaaGreatDoor
