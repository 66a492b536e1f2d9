/-
  Envelopes in pairs; the boxes of a statement about Join; how large what Join answers is (conditions in each lemma).
-/
import Derived.Test.YtcligodahogpkaaGreatDoorZip
import Derived.Test.YtcligodahogpkaaGreatDoorEnvU
import Derived.Test.YtcligodahogpkaaGreatDoorEnvQ
import Derived.Test.YtcligodahogpkaaGreatDoorEnvZ
set_option maxRecDepth 100000
set_option maxHeartbeats 8000000
namespace Go.Proofs.YtcligodahogpkaaGreatDoor
open Go.RowKit Go.Proofs.YtcligodahogpkaaGreatDoor.One
theorem CS {d : List Int} : ∀ {M L : List Pg} {z : Pg}, z ∈ jnL d L M → z ∈ L ∨ z ∈ M
 | [], _, _, h => .inl h
 | x :: M, L, z, h => by
   rcases CS (M := M) (L := jnS d L x) (z := z) h with h | h
   ·rcases LN h with h | rfl
    ·exact .inl h
    ·exact .inr (List.mem_cons_self ..)
   ·exact .inr (List.mem_cons_of_mem _ h)
theorem CT {d : List Int} : ∀ {M L : List Pg}, (jnL d L M).length ≤ L.length + M.length
 | [], _ => Nat.le_refl _
 | x :: M, L => by
   have h1 := CT (d := d) (M := M) (L := jnS d L x)
   have h2 := (LO (d := d) (L := L) (x := x)).2
   show (jnL d (jnS d L x) M).length ≤ _
   rw [List.length_cons]; omega
theorem LL {t t' : ByteArray} {b b' : List UInt8} {L M : List Pg} {z : Pg} (h : z ∈ (jnV t t' b b' L M).L) : z ∈ L ∨ z ∈ M := by
 unfold jnV at h
 split at h
 ·exact CS h
 ·cases h
theorem LM {t t' : ByteArray} {b b' : List UInt8} {L M : List Pg} : (jnV t t' b b' L M).L.length ≤ L.length + M.length := by
 unfold jnV
 split
 ·exact CT
 ·exact Nat.zero_le _
structure EvS where
 t : ByteArray
 sp : Option Addr
 n : Nat
 cap : Nat
 b : List UInt8
 sq : Option Addr
 m : Nat
 cq : Nat
 l : List Sg
def EvS.L (x : EvS) : List Value := enL x.t (.slice x.sp x.n x.cap) (.slice x.sq x.m x.cq)
def EvS.ok (x : EvS) (w : World) : Prop := EvX w x.t x.sp x.n x.cap x.b x.sq x.m x.cq x.l
theorem EvS.ok.below {x : EvS} {w w' : World} (h : x.ok w) (hb : Below w.heap.size w w') : x.ok w' := EvX.below h hb
def MdT (w : World) (e : Ending) (w' : World) : Prop := (∃ x : EvS, e = .returned (.agg x.L.toArray) ∧ x.ok w') ∧ Below w.heap.size w w'
theorem MdX.T {w w' : World} {e : Ending} (h : MdX w e w') : MdT w e w' := by
 obtain ⟨⟨t, sp, n, cap, b, sq, m, cq, l, rfl, hx⟩, hb⟩ := h
 exact ⟨⟨⟨t, sp, n, cap, b, sq, m, cq, l⟩, rfl, hx⟩, hb⟩
theorem rH (x : EvS) : (Tryz.prog.info? 25).map (·.size) = some x.L.length := fR _ _ _
theorem OT (x y : EvS) : (Tryz.prog.info? 30).map (·.size) = some (x.L ++ y.L).length := by kernel_rfl
theorem LQ (x y : EvS) : (Tryz.prog.info? 30).map (·.size) = some (x.L ++ y.L).toArray.size := by kernel_rfl
theorem OO (x y : EvS) : (x.L ++ y.L).toArray.all (·.oneCell') = true := by
 simp [EvS.L, enL, Value.oneCell']
theorem vW (x y : EvS) (w : World) : (Instr.build 30 #[(0, .agg x.L.toArray), (1, .agg y.L.toArray)]).run Tryz.prog w = .ok (.agg (x.L ++ y.L).toArray) w := by kernel_rfl
theorem KD (a b c d e f : EvS) (w : World) : (Instr.buildSlice 31 3 #[(0, .agg (a.L ++ b.L).toArray), (1, .agg (c.L ++ d.L).toArray), (2, .agg (e.L ++ f.L).toArray)]).run Tryz.prog w = .ok (.slice (some ⟨w.heap.size, 0, none⟩) 3 3) (w.alloc (.cells ((a.L ++ b.L) ++ ((c.L ++ d.L) ++ (e.L ++ f.L))).toArray 30)) := by kernel_rfl
structure EvP (w : World) (g : Nat) : Prop where
 e : ∀ k, k < 3 → ∃ x y : EvS, x.ok w ∧ y.ok w ∧ w.rangeAt g (k * 6) (x.L ++ y.L)
 g : g < w.heap.size
theorem EvP.below {w w' : World} {g : Nat} (h : EvP w g) (hb : Below w.heap.size w w') : EvP w' g :=
 ⟨fun k hk => by
  obtain ⟨x, y, hx, hy, hr⟩ := h.e k hk
  exact ⟨x, y, hx.below hb, hy.below hb, aA hr hb h.g⟩, Nat.lt_of_lt_of_le h.g hb.size⟩
theorem EvP.of {w : World} {g : Nat} {a b c d e f : EvS}
 (hg : w.heap[g]? = some (.cells ((a.L ++ b.L) ++ ((c.L ++ d.L) ++ (e.L ++ f.L))).toArray 30 (0, 0)))
 (ha : a.ok w) (hb : b.ok w) (hc : c.ok w) (hd : d.ok w) (he : e.ok w) (hf : f.ok w) : EvP w g :=
 ⟨fun k hk => by
  rcases k with _ | _ | _ | k
  ·exact ⟨a, b, ha, hb, dS (pre := []) (post := (c.L ++ d.L) ++ (e.L ++ f.L)) hg rfl rfl⟩
  ·exact ⟨c, d, hc, hd, dS (pre := a.L ++ b.L) (post := e.L ++ f.L) hg (by simp only [List.append_assoc]) rfl⟩
  ·exact ⟨e, f, he, hf, dS (pre := (a.L ++ b.L) ++ (c.L ++ d.L)) (post := []) hg (by simp only [List.append_assoc, List.append_nil]) rfl⟩
  ·omega, (Array.getElem?_eq_some_iff.1 hg).1⟩
structure JB3 (w : World) (EA CC DC : Array Value) (w' : World) : Prop where
 e : w'.heap[w.heap.size]? = some (.cells EA 25 (0, 0))
 c : w'.heap[w.heap.size + 1]? = some (.cells CC 27 (0, 0))
 d : w'.heap[w.heap.size + 2]? = some (.cells DC 27 (0, 0))
 b : Below w.heap.size w w'
 k : w.heap.size + 3 ≤ w'.heap.size
theorem JB3.new (w : World) (EA CC DC : Array Value) : JB3 w EA CC DC (((w.alloc (.cells EA 25)).alloc (.cells CC 27)).alloc (.cells DC 27)) := by
 have h1 := heap_alloc_new w (.cells EA 25)
 have h2 := heap_alloc_new (w.alloc (.cells EA 25)) (.cells CC 27)
 have h3 := heap_alloc_new ((w.alloc (.cells EA 25)).alloc (.cells CC 27)) (.cells DC 27)
 rw [World.size_alloc] at h2
 rw [World.size_alloc, World.size_alloc] at h3
 exact ⟨(heap_alloc_old _ _ (by simp only [World.size_alloc]; omega)).trans ((heap_alloc_old _ _ (by simp)).trans h1), (heap_alloc_old _ _ (by simp)).trans h2, h3, (((Below.refl _ _).alloc (Nat.le_refl _) _).alloc (by simp) _).alloc (by simp only [World.size_alloc]; omega) _, by simp only [World.size_alloc]; omega⟩
theorem JB3.below {w : World} {EA CC DC : Array Value} {w1 w2 : World} (h : JB3 w EA CC DC w1) (hb : Below w1.heap.size w1 w2) : JB3 w EA CC DC w2 := by
 have h1 := h.k; have h2 := hb.size
 exact ⟨(hb.block _ (by omega)).trans h.e, (hb.block _ (by omega)).trans h.c, (hb.block _ (by omega)).trans h.d, h.b.trans (hb.mono (by omega)), by omega⟩
theorem JB3.setP {w : World} {EA CC : Array Value} {p s p' : Value} {k y : Int} {w1 : World} (hh : JB3 w EA CC (caA p s k y) w1) : JB3 w EA CC (caA p' s k y) (w1.setCell ⟨w.heap.size + 2, 0, none⟩ p') :=
 ⟨(heap_setCell_other _ _ _ _ (by show w.heap.size ≠ w.heap.size + 2; omega)).trans hh.e, (heap_setCell_other _ _ _ _ (by show w.heap.size + 1 ≠ w.heap.size + 2; omega)).trans hh.c, by rw [heap_setCell_same _ _ _ _ _ _ hh.d]; rfl, hh.b.setCell (by show w.heap.size ≤ w.heap.size + 2; omega) _, Nat.le_trans hh.k (gB _ _ _)⟩
theorem mF (t : ByteArray) (sp : Option Addr) (n cap : Nat) (b : List UInt8) (sq : Option Addr) (m cq : Nat) (l : List Sg) (sp0 : Option Addr) (n0 cap0 : Nat) (b0 : List UInt8) (sc : Option Addr) (nc cc : Nat) (sn : List UInt8) (kk yy : Int) (sp9 : Option Addr) (n9 cap9 : Nat) (b9 : List UInt8) (sd : Option Addr) (nd cd : Nat) (sm : List UInt8) (kb yb : Int) (w : World) (hp : BSrc w w.heap.size sp n cap b) (hpn : sp = none → cap = 0) (hl : SgsIn w w.heap.size sq m cq l) (hln : sq = none → cq = 0) (hp0 : BSrc w w.heap.size sp0 n0 cap0 b0) (hp0n : sp0 = none → cap0 = 0) (hn0 : n0 ≤ cap0) (hs : BSrc w w.heap.size sc nc cc sn) (hyy : 0 ≤ yy ∧ yy < 256) (hp9 : BSrc w w.heap.size sp9 n9 cap9 b9) (hp9n : sp9 = none → cap9 = 0) (hn9 : n9 ≤ cap9) (hsd : BSrc w w.heap.size sd nd cd sm) (hyb : 0 ≤ yb ∧ yb < 256) (hk : KayIn w) (hk0 : 1 < w.heap.size) :
 Calls Tryz.prog 3 #[.agg (enA t (.slice sp n cap) (.slice sq m cq)), .agg (caA (.slice sp0 n0 cap0) (.slice sc nc cc) kk yy), .agg (caA (.slice sp9 n9 cap9) (.slice sd nd cd) kb yb)] w fun e w' => e = .returned (.bool true) ∧ Below w.heap.size w w' := by
 have HP := zh hp; have HPN := zh hpn; have HL := zh hl; have HLN := zh hln; have HP0 := zh hp0; have HP0N := zh hp0n; have HSN := zh hs; have HK := zh hk; have HY := zh hyy; have HN0 := zh hn0; have HSD := zh hsd; have HYB := zh hyb
 have HB3 := zh (JB3.new w (enA t (.slice sp n cap) (.slice sq m cq)) (caA (.slice sp0 n0 cap0) (.slice sc nc cc) kk yy) (caA (.slice sp9 n9 cap9) (.slice sd nd cd) kb yb))
 clear hp hpn hl hln hp0 hp0n hs hk hyy hn0 hp9 hp9n hn9 hsd hyb
 go_enter Tryz.func3, Tryz.ntmps3
 go_upto_region 1 with fail
 generalize hw0 : World.alloc (World.alloc (World.alloc w _) _) _ = w0
 have HQ0 : Hid (JB3 w (enA t (.slice sp n cap) (.slice sq m cq)) (caA (.slice sp0 n0 cap0) (.slice sc nc cc) kk yy) (caA (.slice sp9 n9 cap9) (.slice sd nd cd) kb yb) w0) := by rw [← hw0]; exact HB3.out
 clear hw0 HB3
 have hs0 := HQ0.out.k
 have HCL := zh (zJ t (.slice sp n cap) sp n cap rfl sq m cq l w0 ((HL.out.below HQ0.out.b (Nat.le_refl _)).below (Below.refl w0.heap.size w0) (by omega)))
 go_upto_region 2 with (refine wpList_load_row rfl 25 _ rfl w.heap.size rfl 25 _ (0, 0) _ HQ0.out.e Tryz.underlying25 rfl (aF _ _ _) ?_)
 refine HCL.out.mono ?_
 rintro e w1 ⟨bl, rfl, hlt, hb⟩
 have HQ1 : Hid (JB3 w (enA t (.slice sp n cap) (.slice sq m cq)) (caA (.slice sp0 n0 cap0) (.slice sc nc cc) kk yy) (caA (.slice sp9 n9 cap9) (.slice sd nd cd) kb yb) w1) := HQ0.out.below hb
 clear hb HCL HQ0 hs0
 cases bl
 ·go_wp2_with fail
  go_ret
  exact ⟨rfl, HQ1.out.b⟩
 have QO := zh (hlt rfl)
 clear hlt
 have cC : w1.cell? ⟨w.heap.size + 1, 0, none⟩ = some (.slice sp0 n0 cap0) := aH (L := (caL (.slice sp0 n0 cap0) (.slice sc nc cc) kk yy)) HQ1.out.c rfl
 have cD : w1.cell? ⟨w.heap.size + 2, 0, none⟩ = some (.slice sp9 n9 cap9) := aH (L := (caL (.slice sp9 n9 cap9) (.slice sd nd cd) kb yb)) HQ1.out.d rfl
 have fD := frozen_of_row _ _ 0 _ _ HQ1.out.d
 go_upto_region 4 with fail
 generalize hw2 : World.setCell _ _ _ = w2
 have HQ2 : Hid (JB3 w (enA t (.slice sp n cap) (.slice sq m cq)) (caA (.slice sp0 n0 cap0) (.slice sc nc cc) kk yy) (caA (.slice sp0 n0 cap0) (.slice sd nd cd) kb yb) w2) := by rw [← hw2]; exact HQ1.out.setP
 clear cC cD fD HQ1 hw2
 obtain ⟨E0, hE0⟩ : ∃ E0 : EvS, E0 = ⟨t, sp, n, cap, b, sq, m, cq, l⟩ := ⟨_, rfl⟩
 have HE2 : Hid (w2.heap[w.heap.size]? = some (.cells E0.L.toArray 25 (0, 0))) := by rw [hE0]; exact HQ2.out.e
 have HC2 := zh HQ2.out.c
 have HD2 := zh HQ2.out.d
 have HEX : Hid (E0.ok w2) := by rw [hE0]; exact ⟨QO.out.2.1, QO.out.1, QO.out.2.2.1, (HP.out.below HQ2.out.b (Nat.le_refl _)).more HQ2.out.b.size, HPN.out, HL.out.up HQ2.out.b (Nat.le_refl _), HLN.out, fun y hy => by have := QO.out.2.2.2 y hy; omega⟩
 clear hE0
 obtain ⟨B, hBe⟩ : ∃ B, B = w2.heap.size := ⟨_, rfl⟩
 have EJ : Hid (Blks B w2 w2 []) := Blks.start (Below.refl _ _) (Nat.le_of_eq hBe)
 have hk2 := HQ2.out.k
 have HLT : Hid (w.heap.size < B ∧ w.heap.size + 1 < B ∧ w.heap.size + 2 < B) := ⟨by omega, by omega, by omega⟩
 have HBe := zh hBe
 have HCA : Hid (∀ w', Below B w2 w' → Calls Tryz.prog 8 #[.agg (caL (.slice sp0 n0 cap0) (.slice sc nc cc) kk yy).toArray] w' (MdT w')) := fun w' hb => by
  have hbb : Below w.heap.size w w' := HQ2.out.b.trans (hb.mono (by have := HLT.out; omega))
  exact (xE n0 cap0 sp0 b0 sc nc cc sn kk yy w' ((HP0.out.below hbb (Nat.le_refl _)).more hbb.size) HP0N.out ((HSN.out.below hbb (Nat.le_refl _)).more hbb.size) HN0.out HY.out).mono fun e w'' hh => hh.X.T
 have HCB : Hid (∀ w', Below B w2 w' → Calls Tryz.prog 8 #[.agg (caL (.slice sp0 n0 cap0) (.slice sd nd cd) kb yb).toArray] w' (MdT w')) := fun w' hb => by
  have hbb : Below w.heap.size w w' := HQ2.out.b.trans (hb.mono (by have := HLT.out; omega))
  exact (xE n0 cap0 sp0 b0 sd nd cd sm kb yb w' ((HP0.out.below hbb (Nat.le_refl _)).more hbb.size) HP0N.out ((HSD.out.below hbb (Nat.le_refl _)).more hbb.size) HN0.out HYB.out).mono fun e w'' hh => hh.X.T
 clear hBe hk2
 go_upto_region 4 with fail
 go_cut [32, 33, 34] (fun s13 s14 s15 wx => ∃ gR, s13 = .slice (some ⟨gR, 0, none⟩) 3 3 ∧ s14 = .int .i64 3 ∧ s15 = .int .i64 0 ∧ Hid (EvP wx gR ∧ Below B w2 wx))
 case first =>
  as_aux_lemma =>
   refine wp_region_held_drew (S := fun w' => Below B w2 w') (by kernel_rfl) EJ.out.b.drew (fun hHeld => ?_)
   refine' zk 0 rfl (v := _) (yieldsIf_load_mid (by rfl) _ _ rfl _ _ rfl _ _ ?hS0n1 Tryz.underlying27 rfl (xJ _ _ _ _)) ?rest0n1
   case hS0n1 =>
    intro w' hSw
    exact aO (L := (caL (.slice sp0 n0 cap0) (.slice sc nc cc) kk yy)) ((hSw.block _ HLT.out.2.1).trans HC2.out)
   try simp only [Act.put, zA, zB, zC, zD, zE, zF]
   refine' zk 2 rfl (v := _) (yieldsIf_load_mid (by rfl) _ _ rfl _ _ rfl _ _ ?hS2n2 Tryz.underlying27 rfl (xJ _ _ _ _)) ?rest2n2
   case hS2n2 =>
    intro w' hSw
    exact aO (L := (caL (.slice sp0 n0 cap0) (.slice sd nd cd) kb yb)) ((hSw.block _ HLT.out.2.2).trans HD2.out)
   try simp only [Act.put, zA, zB, zC, zD, zE, zF]
   refine' zk 5 rfl (v := _) (yieldsIf_load_mid (by rfl) _ _ rfl _ _ rfl _ _ ?hS5n3 Tryz.underlying25 rfl (rH _)) ?rest5n3
   case hS5n3 =>
    intro w' hSw
    exact aO (L := E0.L) ((hSw.block _ HLT.out.1).trans HE2.out)
   try simp only [Act.put, zA, zB, zC, zD, zE, zF]
   refine' zk 6 rfl (v := _) (yieldsIf_load_mid (by rfl) _ _ rfl _ _ rfl _ _ ?hS6n4 Tryz.underlying27 rfl (xJ _ _ _ _)) ?rest6n4
   case hS6n4 =>
    intro w' hSw
    exact aO (L := (caL (.slice sp0 n0 cap0) (.slice sd nd cd) kb yb)) ((hSw.block _ HLT.out.2.2).trans HD2.out)
   try simp only [Act.put, zA, zB, zC, zD, zE, zF]
   refine' zk 9 rfl (v := _) (yieldsIf_load_mid (by rfl) _ _ rfl _ _ rfl _ _ ?hS9n5 Tryz.underlying27 rfl (xJ _ _ _ _)) ?rest9n5
   case hS9n5 =>
    intro w' hSw
    exact aO (L := (caL (.slice sp0 n0 cap0) (.slice sc nc cc) kk yy)) ((hSw.block _ HLT.out.2.1).trans HC2.out)
   try simp only [Act.put, zA, zB, zC, zD, zE, zF]
   refine' zk 11 rfl (v := _) (yieldsIf_load_mid (by rfl) _ _ rfl _ _ rfl _ _ ?hS11n6 Tryz.underlying25 rfl (rH _)) ?rest11n6
   case hS11n6 =>
    intro w' hSw
    exact aO (L := E0.L) ((hSw.block _ HLT.out.1).trans HE2.out)
   try simp only [Act.put, zA, zB, zC, zD, zE, zF]
   refine zv 15 rfl ?_
   refine zr 1 rfl (fun K hK => ?_)
   go_simp
   with_reducible refine (HCA.out _ (EJ.out.drew).b).mono ?_
   rintro e v1 ⟨⟨xa, rfl, hxa⟩, hb⟩
   have cV := zh (EJ.out.call ((Below.refl _ _).drew.trans hb))
   have HXAv1 := zh hxa
   clear hxa
   clear hb
   go_wp2_with fail
   refine hK.out _ _ cV.out.b fun _ => ?_; clear hK K
   refine zr 3 rfl (fun K hK => ?_)
   go_simp
   with_reducible refine (HCB.out _ (cV.out).b).mono ?_
   rintro e v2 ⟨⟨xb, rfl, hxb⟩, hb⟩
   have bD := zh (cV.out.call hb)
   have HXAv2 := zh (HXAv1.out.below hb)
   have HXBv2 := zh hxb
   clear hxb
   clear hb
   go_wp2_with fail
   refine hK.out _ _ bD.out.b fun _ => ?_; clear hK K
   refine zk 4 rfl (v := _) (cW (by rfl) 30 [(0, .tmp 20), (1, .tmp 22)] rfl [(0, .agg xa.L.toArray), (1, .agg xb.L.toArray)] rfl _ (fun w' _ => vW xa xb w')) ?rest4n8
   try simp only [Act.put, zA, zB, zC, zD, zE, zF]
   refine zr 7 rfl (fun K hK => ?_)
   go_simp
   with_reducible refine (HCB.out _ (bD.out).b).mono ?_
   rintro e v3 ⟨⟨xc, rfl, hxc⟩, hb⟩
   have aU := zh (bD.out.call hb)
   have HXAv3 := zh (HXAv2.out.below hb)
   have HXBv3 := zh (HXBv2.out.below hb)
   have HXCv3 := zh hxc
   clear hxc
   clear hb
   go_wp2_with fail
   refine hK.out _ _ aU.out.b fun _ => ?_; clear hK K
   refine zk 8 rfl (v := _) (cW (by rfl) 30 [(0, .tmp 24), (1, .tmp 26)] rfl [(0, .agg E0.L.toArray), (1, .agg xc.L.toArray)] rfl _ (fun w' _ => vW E0 xc w')) ?rest8n9
   try simp only [Act.put, zA, zB, zC, zD, zE, zF]
   refine zr 10 rfl (fun K hK => ?_)
   go_simp
   with_reducible refine (HCA.out _ (aU.out).b).mono ?_
   rintro e v4 ⟨⟨xd, rfl, hxd⟩, hb⟩
   have aN := zh (aU.out.call hb)
   have HXAv4 := zh (HXAv3.out.below hb)
   have HXBv4 := zh (HXBv3.out.below hb)
   have HXCv4 := zh (HXCv3.out.below hb)
   have HXDv4 := zh hxd
   clear hxd
   clear hb
   go_wp2_with fail
   refine hK.out _ _ aN.out.b fun _ => ?_; clear hK K
   refine zk 12 rfl (v := _) (cW (by rfl) 30 [(0, .tmp 29), (1, .tmp 30)] rfl [(0, .agg xd.L.toArray), (1, .agg E0.L.toArray)] rfl _ (fun w' _ => vW xd E0 w')) ?rest12n10
   try simp only [Act.put, zA, zB, zC, zD, zE, zF]
   refine zr 13 rfl (fun K hK => ?_)
   rw [if_pos (by rfl)]
   refine bA 31 3 [(0, .tmp 23), (1, .tmp 27), (2, .tmp 31)] rfl [(0, .agg (xa.L ++ xb.L).toArray), (1, .agg (E0.L ++ xc.L).toArray), (2, .agg (xd.L ++ E0.L).toArray)] rfl _ _ (KD _ _ _ _ _ _ _) ?_
   obtain ⟨gR, v5, hg, hw, aL, HEv5⟩ := aN.out.allocd (.cells ((xa.L ++ xb.L) ++ ((E0.L ++ xc.L) ++ (xd.L ++ E0.L))).toArray 30 (0, 0))
   go_simp
   try rw [hg]
   generalize hq : World.alloc v4 _ = q
   obtain rfl : v5 = q := hw.symm.trans hq
   clear hg hw hq
   have HXAv5 := zh (HXAv4.out.below HEv5.out)
   have HXBv5 := zh (HXBv4.out.below HEv5.out)
   have HXCv5 := zh (HXCv4.out.below HEv5.out)
   have HXDv5 := zh (HXDv4.out.below HEv5.out)
   refine hK.out _ _ aL.out.b fun _ => ?_; clear hK K
   refine zv 14 rfl ?_
   refine zd ?_ _
   go_wp2_with fail
   go_meet
   exact ⟨gR, rfl, rfl, rfl, EvP.of (aL.out.at 0 rfl) HXAv5.out HXBv5.out (HEX.out.below (show Below w2.heap.size w2 v5 from by rw [← HBe.out]; exact aL.out.b)) HXCv5.out HXDv5.out (HEX.out.below (show Below w2.heap.size w2 v5 from by rw [← HBe.out]; exact aL.out.b)), aL.out.b⟩
 case rest =>
 obtain ⟨gR, rfl, rfl, rfl, HQ⟩ := hcut
 clear EJ HCA HCB HEX HE2 HC2 HD2 QO HP HL HP0 HSN HSD
 go_wp2_with fail
 go_loopw [34] (fun i wr => ∃ k : Nat, i = .int .i64 k ∧ k ≤ 3 ∧ Hid (EvP wr gR) ∧ Hid (Below w.heap.size w wr)) (fun i _ => 3 - (intOf i).toNat)
 case atStart => exact ⟨0, rfl, by omega, HQ.out.1, HQ2.out.b.trans (HQ.out.2.mono (by have := HLT.out; omega))⟩
 case round =>
  clear HQ HQ2
  obtain ⟨k, rfl, hk2, HR, HS⟩ := hrel
  by_cases hlt : k < 3
  ·have hd : decide ((k : Int) < 3) = true := by simp; omega
   obtain ⟨x, y, hx, hy, hrow⟩ := HR.out.e k hlt
   have HXX := zh hx; have HYY := zh hy; have uF := zh hrow
   clear hx hy hrow
   have p1 : (0 : Int) ≤ (k : Int) := by omega
   have p2 : (k : Int) < (3 : Int) := by omega
   go_upto_region 7 with (first
    | (refine wpList_load_mid rfl 30 _ rfl gR (k * 6) rfl _ _ uF.out Tryz.underlying30 rfl (OT x y) ?_)
    | (refine wpList_store_row rfl 30 _ _ rfl wr.heap.size (x.L ++ y.L).toArray rfl rfl 30 _ (heap_alloc_new wr _) (LQ x y) rfl (OO x y) ?_; rw [bF]; generalize hw4 : World.alloc wr _ = w4; have HX4' : Hid (w4.heap[wr.heap.size]? = some (.cells (x.L ++ y.L).toArray 30 (0, 0))) := (by rw [← hw4]; exact heap_alloc_new _ _); have QZ : Hid (Below wr.heap.size wr w4) := (by rw [← hw4]; exact aB _ _); have hs4 : w4.heap.size = wr.heap.size + 1 := (by rw [← hw4]; simp); clear hw4))
   obtain ⟨gX, hgX⟩ : ∃ gX, gX = wr.heap.size := ⟨_, rfl⟩
   have HX4 : Hid (w4.heap[gX]? = some (.cells (x.L ++ y.L).toArray 30 (0, 0))) := by rw [hgX]; exact HX4'.out
   rw [← hgX]
   have MQ : Hid (x.ok w4) := HXX.out.below QZ.out
   have MP : Hid (y.ok w4) := HYY.out.below QZ.out
   have HR4 : Hid (EvP w4 gR) := HR.out.below QZ.out
   have HS4 : Hid (Below w.heap.size w w4) := HS.out.trans (QZ.out.mono HS.out.size)
   have hx4 : gX < w4.heap.size := by omega
   clear HX4' hgX hs4 HXX HYY uF HR HS QZ
   have HKW : Hid (∀ w', Below w.heap.size w w' → KayIn w' ∧ 1 < w'.heap.size) := fun w' hb => ⟨HK.out.below hb hk0, Nat.lt_of_lt_of_le hk0 hb.size⟩
   obtain ⟨V, hV⟩ : ∃ V, V = jnV x.t y.t x.b y.b (x.l.map pg) (y.l.map pg) := ⟨_, rfl⟩
   have HVL : Hid (V.L.length ≤ 1000) := by
    show _ ≤ _
    rw [hV]
    have h1 := LM (t := x.t) (t' := y.t) (b := x.b) (b' := y.b) (L := x.l.map pg) (M := y.l.map pg)
    rw [List.length_map, List.length_map, EvX.s MQ.out |>.len, EvX.s MP.out |>.len] at h1
    have h2 := EvX.hm MQ.out; have h3 := EvX.hm MP.out
    omega
   have HVD : Hid (∀ z ∈ V.L, z.l.length ≤ 1000 ∧ z.q.length ≤ 1000) := by
    rw [hV]
    intro z hz
    rcases LL hz with hz | hz
    ·obtain ⟨u, hu, rfl⟩ := List.mem_map.1 hz
     have h1 := EvX.lt MQ.out u hu
     have h2 := (EvX.s MQ.out).dat u hu
     exact ⟨by rw [show (pg u).l.length = u.n from h2.c.len]; exact h1.1, by rw [show (pg u).q.length = u.m from h2.p.len]; exact h1.2⟩
    ·obtain ⟨u, hu, rfl⟩ := List.mem_map.1 hz
     have h1 := EvX.lt MP.out u hu
     have h2 := (EvX.s MP.out).dat u hu
     exact ⟨by rw [show (pg u).l.length = u.n from h2.c.len]; exact h1.1, by rw [show (pg u).q.length = u.m from h2.p.len]; exact h1.2⟩
   have HSR : Hid (∀ w', x.ok w' → y.ok w' → Calls Tryz.prog 10 #[.agg x.L.toArray, .agg y.L.toArray] w' (JnR V w')) := fun w' hx hy => by
    rw [hV]; exact yX x.t x.sp x.n x.cap x.b x.sq x.m x.cq x.l y.t y.sp y.n y.cap y.b y.sq y.m y.cq y.l w' hx hy
   have HSP : Hid (∀ w', x.ok w' → y.ok w' → KayIn w' → 1 < w'.heap.size → Calls Tryz.prog 9 #[.agg x.L.toArray, .agg y.L.toArray] w' (JnR V w')) := fun w' hx hy hk hk0 => by
    rw [hV]; exact CO x.t x.sp x.n x.cap x.b x.sq x.m x.cq x.l y.t y.sp y.n y.cap y.b y.sq y.m y.cq y.l w' hx hy hk hk0
   clear hV
   obtain ⟨VE, VT, VB, VL⟩ := V
   have HR0 : Hid (w4.rangeAt gX 0 x.L) := dS (pre := []) (post := y.L) HX4.out rfl rfl
   have HR3 : Hid (w4.rangeAt gX 3 y.L) := dS (pre := x.L) (post := []) HX4.out (by rw [List.append_nil]) rfl
   have HIX := zh (rH x); have HIY := zh (rH y)
   go_wp2_with (first
    | (refine wpList_load_mid rfl 25 _ rfl gX 0 rfl _ _ HR0.out Tryz.underlying25 rfl HIX.out ?_)
    | (refine wpList_load_mid rfl 25 _ rfl gX 3 rfl _ _ HR3.out Tryz.underlying25 rfl HIY.out ?_))
   refine (HSP.out w4 MQ.out MP.out (HKW.out w4 HS4.out).1 (HKW.out w4 HS4.out).2).mono ?_
   rintro e w5 ⟨x1, y1, z1, x2, y2, z2, l5, rfl, hp5, hs5, hl5, hb⟩
   have HP5 := zh hp5; have HS5' := zh hs5; have HL5 := zh hl5
   have HX5 : Hid (w5.heap[gX]? = some (.cells (x.L ++ y.L).toArray 30 (0, 0))) := (hb.block _ hx4).trans HX4.out
   have HXX5 : Hid (x.ok w5) := MQ.out.below hb
   have HYY5 : Hid (y.ok w5) := MP.out.below hb
   have HR5 : Hid (EvP w5 gR) := HR4.out.below hb
   have HS5 : Hid (Below w.heap.size w w5) := HS4.out.trans (hb.mono HS4.out.size)
   have hx5 : gX < w5.heap.size := by have := hb.size; omega
   clear hb hp5 hs5 hl5 HX4 MQ MP HR4 HS4 HSP HKW hx4 HR0 HR3
   go_upto_region 8 with (refine wpList_store_row rfl 25 _ _ rfl w5.heap.size (enA VT (.slice x1 y1 z1) (.slice x2 y2 z2)) rfl rfl 25 _ (heap_alloc_new w5 _) (aF _ _ _) rfl (bX _ _ _ _ _ _ _) ?_; rw [bF]; generalize hw6 : World.alloc w5 _ = w6; have HA6' : Hid (w6.heap[w5.heap.size]? = some (.cells (enA VT (.slice x1 y1 z1) (.slice x2 y2 z2)) 25 (0, 0))) := (by rw [← hw6]; exact heap_alloc_new _ _); have IQ : Hid (Below w5.heap.size w5 w6) := (by rw [← hw6]; exact aB _ _); have hs6 : w6.heap.size = w5.heap.size + 1 := (by rw [← hw6]; simp); clear hw6)
   have HP6 : Hid (BSrc w6 w6.heap.size x1 y1 z1 VB) := (HP5.out.below IQ.out (Nat.le_refl _)).more IQ.out.size
   have vZ : Hid (SgsIn w6 w6.heap.size x2 y2 z2 l5) := HS5'.out.up IQ.out (Nat.le_refl _)
   have HX6 : Hid (w6.heap[gX]? = some (.cells (x.L ++ y.L).toArray 30 (0, 0))) := (IQ.out.block _ hx5).trans HX5.out
   have HXX6 : Hid (x.ok w6) := HXX5.out.below IQ.out
   have HYY6 : Hid (y.ok w6) := HYY5.out.below IQ.out
   have HR6 : Hid (EvP w6 gR) := HR5.out.below IQ.out
   have HS6 : Hid (Below w.heap.size w w6) := HS5.out.trans (IQ.out.mono HS5.out.size)
   obtain ⟨ga, hga⟩ : ∃ ga, ga = w5.heap.size := ⟨_, rfl⟩
   have HA6 : Hid (w6.heap[ga]? = some (.cells (enA VT (.slice x1 y1 z1) (.slice x2 y2 z2)) 25 (0, 0))) := by rw [hga]; exact HA6'.out
   rw [← hga]
   have HLA : Hid (ga < w6.heap.size ∧ gX < w6.heap.size) := ⟨by omega, by omega⟩
   clear HP5 HS5' HX5 HXX5 HYY5 HR5 HS5 IQ hx5 hs6 hga HA6'
   have HR0 : Hid (w6.rangeAt gX 0 x.L) := dS (pre := []) (post := y.L) HX6.out rfl rfl
   have HR3 : Hid (w6.rangeAt gX 3 y.L) := dS (pre := x.L) (post := []) HX6.out (by rw [List.append_nil]) rfl
   go_wp2_with (first
    | (refine wpList_load_mid rfl 25 _ rfl gX 0 rfl _ _ HR0.out Tryz.underlying25 rfl HIX.out ?_)
    | (refine wpList_load_mid rfl 25 _ rfl gX 3 rfl _ _ HR3.out Tryz.underlying25 rfl HIY.out ?_))
   refine (HSR.out w6 HXX6.out HYY6.out).mono ?_
   rintro e w7 ⟨u1, v1, r1, u2, v2, r2, l7, rfl, hp7, hs7, hl7, hb⟩
   have HP7a : Hid (BSrc w7 w7.heap.size x1 y1 z1 VB) := (HP6.out.below hb (Nat.le_refl _)).more hb.size
   have HS7a : Hid (SgsIn w7 w7.heap.size x2 y2 z2 l5) := vZ.out.up hb (Nat.le_refl _)
   have HP7 := zh hp7; have HS7' := zh hs7; have HL7 := zh hl7
   have HR7 : Hid (EvP w7 gR) := HR6.out.below hb
   have HS7 : Hid (Below w.heap.size w w7) := HS6.out.trans (hb.mono HS6.out.size)
   have HA7 : Hid (w7.heap[ga]? = some (.cells (enA VT (.slice x1 y1 z1) (.slice x2 y2 z2)) 25 (0, 0))) := (hb.block _ HLA.out.1).trans HA6.out
   have hl7 : ga < w7.heap.size := by have := hb.size; have := HLA.out.1; omega
   clear hb hp7 hs7 HP6 vZ HR6 HS6 HA6 HX6 HXX6 HYY6 HSR HLA HR0 HR3 HIX HIY
   go_upto_region 9 with (refine wpList_store_row rfl 25 _ _ rfl w7.heap.size (enA VT (.slice u1 v1 r1) (.slice u2 v2 r2)) rfl rfl 25 _ (heap_alloc_new w7 _) (aF _ _ _) rfl (bX _ _ _ _ _ _ _) ?_; rw [bF]; generalize hw8 : World.alloc w7 _ = w8; have HA8' : Hid (w8.heap[w7.heap.size]? = some (.cells (enA VT (.slice u1 v1 r1) (.slice u2 v2 r2)) 25 (0, 0))) := (by rw [← hw8]; exact heap_alloc_new _ _); have EZ : Hid (Below w7.heap.size w7 w8) := (by rw [← hw8]; exact aB _ _); have hs8 : w8.heap.size = w7.heap.size + 1 := (by rw [← hw8]; simp); clear hw8)
   have HP8a : Hid (BSrc w8 w8.heap.size x1 y1 z1 VB) := (HP7a.out.below EZ.out (Nat.le_refl _)).more EZ.out.size
   have HS8a : Hid (SgsIn w8 w8.heap.size x2 y2 z2 l5) := HS7a.out.up EZ.out (Nat.le_refl _)
   have HP8 : Hid (BSrc w8 w8.heap.size u1 v1 r1 VB) := (HP7.out.below EZ.out (Nat.le_refl _)).more EZ.out.size
   have HS8b : Hid (SgsIn w8 w8.heap.size u2 v2 r2 l7) := HS7'.out.up EZ.out (Nat.le_refl _)
   have HR8 : Hid (EvP w8 gR) := HR7.out.below EZ.out
   have HS8 : Hid (Below w.heap.size w w8) := HS7.out.trans (EZ.out.mono HS7.out.size)
   have HA8 := zh (aO (L := (enL VT (.slice x1 y1 z1) (.slice x2 y2 z2))) ((EZ.out.block _ hl7).trans HA7.out))
   have HC8' := zh (aO (L := (enL VT (.slice u1 v1 r1) (.slice u2 v2 r2))) HA8'.out)
   obtain ⟨gb, hgb⟩ : ∃ gb, gb = w7.heap.size := ⟨_, rfl⟩
   rw [← hgb] at HC8'
   have HC8 := HC8'
   rw [← hgb]
   clear HP7a HS7a HP7 HS7' HR7 HS7 HA7 EZ hl7 hgb HA8' HC8' hs8
   have qE : (VE == VE) = true := by simp
   have HSM := zh (yV VT x1 y1 z1 VB x2 y2 z2 l5 u1 v1 r1 u2 v2 r2 l7 w8 HP8a.out HP8.out HS8a.out HS8b.out (HL5.out.trans HL7.out.symm) (fun y hy => HVD.out y (by rw [← show l5.map pg = VL from HL5.out]; exact hy)) (by rw [← HS8a.out.len]; have h1 := congrArg List.length (show l5.map pg = VL from HL5.out); rw [List.length_map] at h1; rw [h1]; exact HVL.out))
   go_wp2_with (first
    | (refine aX (by rfl) 25 _ rfl ga 0 rfl _ _ HA8.out Tryz.underlying25 rfl (fR _ _ _) ?_)
    | (refine aX (by rfl) 25 _ rfl gb 0 rfl _ _ HC8.out Tryz.underlying25 rfl (fR _ _ _) ?_))
   refine HSM.out.mono ?_
   rintro e w9 ⟨rfl, hb⟩
   have HR9 : Hid (EvP w9 gR) := HR8.out.below hb
   have HS9 : Hid (Below w.heap.size w w9) := HS8.out.trans (hb.mono HS8.out.size)
   clear hb
   go_wp2_with fail
   go_roundw
   case rel => exact ⟨k + 1, by go_num, by omega, HR9.out, HS9.out⟩
   case measure => simp [intOf]; omega
  ·obtain rfl : k = 3 := by omega
   have hd : decide (((3 : Nat) : Int) < 3) = false := by simp
   have hkw : 1 < wr.heap.size := Nat.lt_of_lt_of_le hk0 HS.out.size
   have HA := zh (vX wr (HK.out.below HS.out hk0) hkw)
   go_wp2_with fail
   refine HA.out.mono ?_
   rintro e w9 ⟨rfl, hb⟩
   have HB9 : Hid (Below w.heap.size w w9) := HS.out.trans (hb.mono HS.out.size)
   clear hb HA
   go_wp2_with fail
   go_ret
   exact ⟨rfl, HB9.out⟩
end Go.Proofs.YtcligodahogpkaaGreatDoor
