/-
  The walk of EnvelopeUnites (conditions: the arguments read as cases; the table of constants reads as it is laid).
-/
import Derived.Test.YtcligodahogpkaaGreatDoorZip
import Derived.Test.YtcligodahogpkaaGreatDoorEnvUm
import Derived.Test.YtcligodahogpkaaGreatDoorDgsS
set_option maxRecDepth 100000
set_option maxHeartbeats 8000000
namespace Go.Proofs.YtcligodahogpkaaGreatDoor
open Go.RowKit Go.Proofs.YtcligodahogpkaaGreatDoor.One
theorem bN (x : EvS) : (Tryz.prog.info? 25).map (·.size) = some x.L.toArray.size := aL _ _ _
theorem cN (x : EvS) : x.L.toArray.all (·.oneCell') = true := cJ _ _ _ _ _ _ _
theorem DigsIn.nilU (w : World) (B : Nat) : DigsIn w B none 0 0 [] := ⟨rfl, fun x hx => absurd hx (by simp), fun h => absurd h (by omega)⟩
theorem GthIn.cast {D D' : List (List Int)} {v : Value} {w : World} (h : GthIn D v w) (e : D = D') : GthIn D' v w := e ▸ h
def CB (cs : Array Value) : Bool := cs.toList.all fun v => match v with | .int _ _ => false | _ => true
theorem mI {w : World} {g : Nat} {cs ds : Array Value} {t : TypeId} {b o : Nat} {L : List Value} (hg : w.heap[g]? = some (.cells cs t (0, 0))) (hn : CB cs = true) (hL : ∃ k m, L[0]? = some (.int k m)) (h : w.rangeAt b o L) : (w.setRow g ds).rangeAt b o L := by
 have hne : b ≠ g := by
  rintro rfl
  obtain ⟨k, m, e⟩ := hL
  have h1 := h 0 _ e
  rw [cell_of_row w b (o + 0) cs t (0, 0) hg] at h1
  have h2 : Value.int k m ∈ cs.toList := by
   obtain ⟨hlt, he⟩ := Array.getElem?_eq_some_iff.1 h1
   rw [← he]; exact Array.getElem_mem_toList hlt
  exact absurd (List.all_eq_true.1 hn _ h2) (by simp)
 intro j v hv
 exact (World.cell?_of_block (w := w) (setRow_other _ _ _ _ hne)).trans (h j v hv)
theorem BSrc.setZ {w : World} {g B : Nat} {cs ds : Array Value} {t : TypeId} {sp : Option Addr} {n cap : Nat} {l : List UInt8} (hg : w.heap[g]? = some (.cells cs t (0, 0))) (hn : CB cs = true) (h : BSrc w B sp n cap l) : BSrc (w.setRow g ds) B sp n cap l :=
 ⟨h.len, fun hp => by
  obtain ⟨b, off, e, hlt, hc, hr⟩ := h.cells hp
  refine ⟨b, off, e, hlt, hc, fun j hj => ?_⟩
  exact mI (L := [Value.int .u8 (l[j].toNat : Int)]) hg hn ⟨_, _, rfl⟩ (fun i v hv => by
   have hi := (List.getElem?_eq_some_iff.1 hv).1
   have hi0 : i = 0 := by simpa using hi
   subst hi0
   show w.cell? ⟨b, off + j, none⟩ = some v
   rw [hr j hj]; simpa using hv) 0 _ rfl⟩
theorem HvsIn.setZ {w : World} {g B : Nat} {cs ds : Array Value} {t : TypeId} {sp : Option Addr} {n cap : Nat} {l : List (List Int)} (hg : w.heap[g]? = some (.cells cs t (0, 0))) (hn : CB cs = true) (h : HvsIn w B sp n cap l) : HvsIn (w.setRow g ds) B sp n cap l :=
 ⟨h.len, h.ok, fun hp => by
  obtain ⟨b, off, e, hlt, hc, hr⟩ := h.cells hp
  refine ⟨b, off, e, hlt, hc, fun i hi => mI hg hn ?_ (hr i hi)⟩
  have h16 := h.at16 hi
  cases hx : l.getD i [] with
  | nil => rw [hx] at h16; exact absurd h16.1 (by simp)
  | cons a r => exact ⟨_, _, rfl⟩⟩
theorem SgsIn.setZ {w : World} {g B : Nat} {cs ds : Array Value} {t : TypeId} {sp : Option Addr} {n cap : Nat} {l : List Sg} (hg : w.heap[g]? = some (.cells cs t (0, 0))) (hn : CB cs = true) (h : SgsIn w B sp n cap l) : SgsIn (w.setRow g ds) B sp n cap l :=
 ⟨h.len, h.ok, fun x hx => ⟨(h.dat x hx).c.setZ hg hn, (h.dat x hx).p.setZ hg hn, (h.dat x hx).cn, (h.dat x hx).pn⟩, fun hp => by
  obtain ⟨b, off, e, hlt, hc, hr⟩ := h.cells hp
  exact ⟨b, off, e, hlt, hc, fun i x hi => mI hg hn ⟨_, _, rfl⟩ (hr i x hi)⟩⟩
theorem EvS.ok.setRow {x : EvS} {w : World} {g : Nat} {cs : Array Value} {t : TypeId} (h : x.ok w) (hg : w.heap[g]? = some (.cells cs t (0, 0))) (hn : CB cs = true) (ds : Array Value) : x.ok (w.setRow g ds) := by
 have hs : (w.setRow g ds).heap.size = w.heap.size := setRow_size _ _ _
 obtain ⟨h1, h2, h3, h4, h5, h6, h7, h8⟩ := h
 exact ⟨h1, h2, h3, by rw [hs]; exact h4.setZ hg hn, h5, by rw [hs]; exact h6.setZ hg hn, h7, h8⟩
structure SgnD (s : Option Addr) (c : Nat) (S : List (List Int)) (w : World) : Prop where
 d : DigsIn w w.heap.size s S.length c S
theorem SgnD.below {s : Option Addr} {c : Nat} {S : List (List Int)} {w w' : World} (h : SgnD s c S w) (hb : Below w.heap.size w w') : SgnD s c S w' := ⟨h.d.upD hb hb.size⟩
structure TwoE (gP gQ : Nat) (x y : EvS) (w w' : World) : Prop where
 p : w'.heap[gP]? = some (.cells x.L.toArray 25 (0, 0))
 q : w'.heap[gQ]? = some (.cells y.L.toArray 25 (0, 0))
 x : x.ok w'
 y : y.ok w'
 b : Below w.heap.size w w'
theorem TwoE.below {gP gQ : Nat} {x y : EvS} {w w1 w2 : World} (h : TwoE gP gQ x y w w1) (hb : Below w1.heap.size w1 w2) : TwoE gP gQ x y w w2 :=
 ⟨(hb.block _ (Array.getElem?_eq_some_iff.1 h.p).1).trans h.p, (hb.block _ (Array.getElem?_eq_some_iff.1 h.q).1).trans h.q, h.x.below hb, h.y.below hb, h.b.trans (hb.mono h.b.size)⟩
structure JnB (g : Nat) (B0 : List UInt8) (J : List Pg) (w : World) : Prop where
 h : ∃ x : EvS, w.heap[g]? = some (.cells x.L.toArray 25 (0, 0)) ∧ x.t = bQ ∧ BSrc w w.heap.size x.sp x.n x.cap x.b ∧ x.b = B0 ∧ SgsIn w w.heap.size x.sq x.m x.cq x.l ∧ x.l.map pg = J
theorem JnB.below {g : Nat} {B0 : List UInt8} {J : List Pg} {w w' : World} (h : JnB g B0 J w) (hb : Below w.heap.size w w') : JnB g B0 J w' := by
 obtain ⟨x, h1, h2, h3, h4, h5, h6⟩ := h.h
 exact ⟨x, (hb.block _ (Array.getElem?_eq_some_iff.1 h1).1).trans h1, h2, (h3.below hb (Nat.le_refl _)).more hb.size, h4, h5.up hb (Nat.le_refl _), h6⟩
theorem lS (sp0 : Option Addr) (n0 cap0 : Nat) (b0 : List UInt8) (sc : Option Addr) (nc cc : Nat) (sn : List UInt8) (kk yy : Int) (sp9 : Option Addr) (n9 cap9 : Nat) (b9 : List UInt8) (sd : Option Addr) (nd cd : Nat) (sm : List UInt8) (kb yb : Int) (w : World) (hp0 : BSrc w w.heap.size sp0 n0 cap0 b0) (hp0n : sp0 = none → cap0 = 0) (hn0 : n0 ≤ cap0) (hs : BSrc w w.heap.size sc nc cc sn) (hyy : 0 ≤ yy ∧ yy < 256) (hp9 : BSrc w w.heap.size sp9 n9 cap9 b9) (hp9n : sp9 = none → cap9 = 0) (hn9 : n9 ≤ cap9) (hsd : BSrc w w.heap.size sd nd cd sm) (hyb : 0 ≤ yb ∧ yb < 256) (hk : KayIn w) (hk0 : 1 < w.heap.size) :
 Calls Tryz.prog 4 #[.agg (caA (.slice sp0 n0 cap0) (.slice sc nc cc) kk yy), .agg (caA (.slice sp9 n9 cap9) (.slice sd nd cd) kb yb)] w fun e w' => e = .returned (.bool true) ∧ Below w.heap.size w w' := by
 have HP0 := zh hp0; have HP0N := zh hp0n; have HSN := zh hs; have HK := zh hk; have HY := zh hyy; have HN0 := zh hn0; have HSD := zh hsd; have HYB := zh hyb
 have HB3 := zh (CB2.new w (caA (.slice sp0 n0 cap0) (.slice sc nc cc) kk yy) (caA (.slice sp9 n9 cap9) (.slice sd nd cd) kb yb))
 clear hp0 hp0n hs hk hyy hn0 hp9 hp9n hn9 hsd hyb
 go_enter Tryz.func4, Tryz.ntmps4
 go_upto_region 1 with fail
 generalize hw0 : World.alloc (World.alloc w _) _ = w0
 have HQ0 : Hid (CB2 w (caA (.slice sp0 n0 cap0) (.slice sc nc cc) kk yy) (caA (.slice sp9 n9 cap9) (.slice sd nd cd) kb yb) w0) := by rw [← hw0]; exact HB3.out
 clear hw0 HB3
 have cC : w0.cell? ⟨w.heap.size, 0, none⟩ = some (.slice sp0 n0 cap0) := aH (L := (caL (.slice sp0 n0 cap0) (.slice sc nc cc) kk yy)) HQ0.out.c rfl
 have cD : w0.cell? ⟨w.heap.size + 1, 0, none⟩ = some (.slice sp9 n9 cap9) := aH (L := (caL (.slice sp9 n9 cap9) (.slice sd nd cd) kb yb)) HQ0.out.d rfl
 have fD := frozen_of_row _ _ 0 _ _ HQ0.out.d
 go_upto_region 2 with fail
 generalize hw1 : World.setCell _ _ _ = w1
 have HQ1 : Hid (CB2 w (caA (.slice sp0 n0 cap0) (.slice sc nc cc) kk yy) (caA (.slice sp0 n0 cap0) (.slice sd nd cd) kb yb) w1) := by rw [← hw1]; exact HQ0.out.setP
 clear cC cD fD HQ0 hw1
 obtain ⟨ka, hka⟩ : ∃ z, bits .and .i64 kk 1 = z := ⟨_, rfl⟩
 obtain ⟨kc, hkc⟩ : ∃ z, bits .and .i64 kb 1 = z := ⟨_, rfl⟩
 have HKA : Hid (ka = 0 ∨ ka = 1) := by show _ ∨ _; rw [← hka]; exact yO kk
 have HKC : Hid (kc = 0 ∨ kc = 1) := by show _ ∨ _; rw [← hkc]; exact yO kb
 have c2 : w1.cell? ⟨w.heap.size, 2, none⟩ = some (.int .i64 kk) := aH (L := (caL (.slice sp0 n0 cap0) (.slice sc nc cc) kk yy)) HQ1.out.c rfl
 have d2 : w1.cell? ⟨w.heap.size + 1, 2, none⟩ = some (.int .i64 kb) := aH (L := (caL (.slice sp0 n0 cap0) (.slice sd nd cd) kb yb)) HQ1.out.d rfl
 have f2 := frozen_of_row _ _ 2 _ _ HQ1.out.c
 have g2 := frozen_of_row _ _ 2 _ _ HQ1.out.d
 have mixed : Tryz.prog.follows .mixedOrders = true := by kernel_rfl
 go_region_o
 generalize hw2 : World.drew _ = w2
 have HQ2 : Hid (CB2 w (caA (.slice sp0 n0 cap0) (.slice sc nc cc) ka yy) (caA (.slice sp0 n0 cap0) (.slice sd nd cd) kc yb) w2) := by rw [← hw2]; exact (CB2.setD (CB2.setC HQ1.out)).drew
 clear c2 d2 f2 g2 HQ1 hw2 hka hkc
 obtain ⟨B, hBe⟩ : ∃ B, B = w2.heap.size := ⟨_, rfl⟩
 have AG : Hid (Blks B w2 w2 []) := Blks.start (Below.refl _ _) (Nat.le_of_eq hBe)
 have hk2 := HQ2.out.k
 have HC2 := zh HQ2.out.c
 have HD2 := zh HQ2.out.d
 have HLT : Hid (w.heap.size < B ∧ w.heap.size + 1 < B) := ⟨by omega, by omega⟩
 have HBe := zh hBe
 have HCA : Hid (∀ w', Below B w2 w' → Calls Tryz.prog 8 #[.agg (caL (.slice sp0 n0 cap0) (.slice sc nc cc) ka yy).toArray] w' (MdU (b0.take 200) w')) := fun w' hb => by
  have hbb : Below w.heap.size w w' := HQ2.out.b.trans (hb.mono (by have := HLT.out; omega))
  exact (xS n0 cap0 sp0 b0 sc nc cc sn ka yy w' ((HP0.out.below hbb (Nat.le_refl _)).more hbb.size) HP0N.out ((HSN.out.below hbb (Nat.le_refl _)).more hbb.size) HN0.out HY.out).mono fun e w'' hh => hh.U HKA.out
 have HCB : Hid (∀ w', Below B w2 w' → Calls Tryz.prog 8 #[.agg (caL (.slice sp0 n0 cap0) (.slice sd nd cd) kc yb).toArray] w' (MdU (b0.take 200) w')) := fun w' hb => by
  have hbb : Below w.heap.size w w' := HQ2.out.b.trans (hb.mono (by have := HLT.out; omega))
  exact (xS n0 cap0 sp0 b0 sd nd cd sm kc yb w' ((HP0.out.below hbb (Nat.le_refl _)).more hbb.size) HP0N.out ((HSD.out.below hbb (Nat.le_refl _)).more hbb.size) HN0.out HYB.out).mono fun e w'' hh => hh.U HKC.out
 clear hBe hk2
 generalize b0.take 200 = B0 at *
 go_upto_region 3 with fail
 go_cut [5, 6] (fun s5 s6 wx => ∃ gP gQ x y, s5 = .pointer (some ⟨gP, 0, none⟩) ∧ s6 = .pointer (some ⟨gQ, 0, none⟩) ∧ Hid (wx.heap[gP]? = some (.cells x.L.toArray 25 (0, 0)) ∧ wx.heap[gQ]? = some (.cells y.L.toArray 25 (0, 0)) ∧ EvS.ok x wx ∧ EvS.ok y wx ∧ (x.t = bQ ∧ x.b = B0 ∧ x.m ≤ 3 ∧ eY bQ B0 (x.l.map pg) = true) ∧ (y.t = bQ ∧ y.b = B0 ∧ y.m ≤ 3 ∧ eY bQ B0 (y.l.map pg) = true) ∧ Below B w2 wx))
 case first =>
  as_aux_lemma =>
   refine wp_region_held_drew (S := fun w' => Below B w2 w') (by kernel_rfl) AG.out.b.drew (fun hHeld => ?_)
   refine' zk 0 rfl (v := _) (yieldsIf_load_mid (by rfl) _ _ rfl _ _ rfl _ _ ?hS0n1 Tryz.underlying27 rfl (JE _ _ _ _)) ?rest0n1
   case hS0n1 =>
    intro w' hSw
    exact aV (L := (caL (.slice sp0 n0 cap0) (.slice sc nc cc) ka yy)) ((hSw.block _ HLT.out.1).trans HC2.out)
   try simp only [Act.put, zA, zB, zC, zD, zE, zF]
   refine' zk 2 rfl (v := _) (yieldsIf_load_mid (by rfl) _ _ rfl _ _ rfl _ _ ?hS2n2 Tryz.underlying27 rfl (JE _ _ _ _)) ?rest2n2
   case hS2n2 =>
    intro w' hSw
    exact aV (L := (caL (.slice sp0 n0 cap0) (.slice sd nd cd) kc yb)) ((hSw.block _ HLT.out.2).trans HD2.out)
   try simp only [Act.put, zA, zB, zC, zD, zE, zF]
   refine wpAnyH_ready (rs := [1, 4, 5]) (by kernel_rfl) (by simp) (AllReadyH.cons (o := _) rfl (fun K hK => ?_) (AllReadyH.cons (o := _) rfl (fun K hK => ?_) (AllReadyH.cons (o := _) rfl (fun K hK => ?_) AllReadyH.nil)))
   go_simp
   with_reducible refine (HCA.out _ (AG.out.drew).b).mono ?_
   rintro e v1 ⟨⟨xa, rfl, hxa, hfxa⟩, hb⟩
   have cW := zh (AG.out.call ((Below.refl _ _).drew.trans hb))
   have MK := zh hxa
   have uZ := zh hfxa
   clear hxa hfxa
   clear hb
   go_wp2_with fail
   refine hK.out _ _ cW.out.b fun _ => ?_; clear hK K
   refine wpAnyH_ready (rs := [3, 4, 5]) (by kernel_rfl) (by simp) (AllReadyH.cons (o := _) rfl (fun K hK => ?_) (AllReadyH.cons (o := _) rfl (fun K hK => ?_) (AllReadyH.cons (o := _) rfl (fun K hK => ?_) AllReadyH.nil)))
   go_simp
   with_reducible refine (HCB.out _ (cW.out).b).mono ?_
   rintro e v2 ⟨⟨xb, rfl, hxb, hfxb⟩, hb⟩
   have aW := zh (cW.out.call hb)
   have lY := zh (MK.out.below hb)
   have PE := zh hxb
   have pO := zh hfxb
   clear hxb hfxb
   clear hb
   go_wp2_with fail
   refine hK.out _ _ aW.out.b fun _ => ?_; clear hK K
   refine zs 4 5 rfl (fun K hK => ?_) rfl (fun K hK => ?_)
   obtain ⟨gP, v3, hg, hw, aO, HEv3⟩ := aW.out.allocd (.cells zEn 25 (0, 0))
   go_simp
   try rw [hg]
   generalize hq : World.alloc v2 _ = q
   obtain rfl : v3 = q := hw.symm.trans hq
   clear hg hw hq
   have gO := zh (lY.out.below HEv3.out)
   have pJ := zh (PE.out.below HEv3.out)
   refine hK.out _ _ aO.out.b fun _ => ?_; clear hK K
   refine zr 5 rfl (fun K hK => ?_)
   obtain ⟨gQ, v4, hg, hw, aI, HEv4⟩ := aO.out.allocd (.cells zEn 25 (0, 0))
   go_simp
   try rw [hg]
   generalize hq : World.alloc v3 _ = q
   obtain rfl : v4 = q := hw.symm.trans hq
   clear hg hw hq
   have gM := zh (gO.out.below HEv4.out)
   have gL := zh (pJ.out.below HEv4.out)
   refine hK.out _ _ aI.out.b fun _ => ?_; clear hK K
   refine zr 6 rfl (fun K hK => ?_)
   rw [if_pos (by rfl)]
   refine wp_store_row 25 _ _ rfl gP xa.L.toArray rfl rfl 25 _ (aI.out.at 1 rfl) (bN xa) (by rfl) (cN xa) ?_
   generalize hw : World.setRow v4 _ _ = v5
   have aE := zh (aI.out.set 1 rfl xa.L.toArray)
   rw [hw] at aE
   have eC := zh (gM.out.setRow (aI.out.at 1 rfl) (by decide) xa.L.toArray)
   rw [hw] at eC
   have eA := zh (gL.out.setRow (aI.out.at 1 rfl) (by decide) xa.L.toArray)
   rw [hw] at eA
   clear hw
   refine hK.out _ _ aE.out.b fun _ => ?_; clear hK K
   refine zr 7 rfl (fun K hK => ?_)
   rw [if_pos (by rfl)]
   refine wp_store_row 25 _ _ rfl gQ xb.L.toArray rfl rfl 25 _ (aE.out.at 0 rfl) (bN xb) (by rfl) (cN xb) ?_
   generalize hw : World.setRow v5 _ _ = v6
   have aF := zh (aE.out.set 0 rfl xb.L.toArray)
   rw [hw] at aF
   have eB := zh (eC.out.setRow (aE.out.at 0 rfl) (by decide) xb.L.toArray)
   rw [hw] at eB
   have dZ := zh (eA.out.setRow (aE.out.at 0 rfl) (by decide) xb.L.toArray)
   rw [hw] at dZ
   clear hw
   refine hK.out _ _ aF.out.b fun _ => ?_; clear hK K
   refine zd ?_ _
   go_wp2_with fail
   go_meet
   exact ⟨gP, gQ, xa, xb, rfl, rfl, ⟨aF.out.at 1 rfl, aF.out.at 0 rfl, eB.out, dZ.out, uZ.out, pO.out, aF.out.b⟩⟩
   obtain ⟨gQ, v3, hg, hw, aO, HEv3⟩ := aW.out.allocd (.cells zEn 25 (0, 0))
   go_simp
   try rw [hg]
   generalize hq : World.alloc v2 _ = q
   obtain rfl : v3 = q := hw.symm.trans hq
   clear hg hw hq
   have gO := zh (lY.out.below HEv3.out)
   have pJ := zh (PE.out.below HEv3.out)
   refine hK.out _ _ aO.out.b fun _ => ?_; clear hK K
   refine zr 4 rfl (fun K hK => ?_)
   obtain ⟨gP, v4, hg, hw, aI, HEv4⟩ := aO.out.allocd (.cells zEn 25 (0, 0))
   go_simp
   try rw [hg]
   generalize hq : World.alloc v3 _ = q
   obtain rfl : v4 = q := hw.symm.trans hq
   clear hg hw hq
   have gM := zh (gO.out.below HEv4.out)
   have gL := zh (pJ.out.below HEv4.out)
   refine hK.out _ _ aI.out.b fun _ => ?_; clear hK K
   refine zr 6 rfl (fun K hK => ?_)
   rw [if_pos (by rfl)]
   refine wp_store_row 25 _ _ rfl gP xa.L.toArray rfl rfl 25 _ (aI.out.at 0 rfl) (bN xa) (by rfl) (cN xa) ?_
   generalize hw : World.setRow v4 _ _ = v5
   have aE := zh (aI.out.set 0 rfl xa.L.toArray)
   rw [hw] at aE
   have eC := zh (gM.out.setRow (aI.out.at 0 rfl) (by decide) xa.L.toArray)
   rw [hw] at eC
   have eA := zh (gL.out.setRow (aI.out.at 0 rfl) (by decide) xa.L.toArray)
   rw [hw] at eA
   clear hw
   refine hK.out _ _ aE.out.b fun _ => ?_; clear hK K
   refine zr 7 rfl (fun K hK => ?_)
   rw [if_pos (by rfl)]
   refine wp_store_row 25 _ _ rfl gQ xb.L.toArray rfl rfl 25 _ (aE.out.at 1 rfl) (bN xb) (by rfl) (cN xb) ?_
   generalize hw : World.setRow v5 _ _ = v6
   have aF := zh (aE.out.set 1 rfl xb.L.toArray)
   rw [hw] at aF
   have eB := zh (eC.out.setRow (aE.out.at 1 rfl) (by decide) xb.L.toArray)
   rw [hw] at eB
   have dZ := zh (eA.out.setRow (aE.out.at 1 rfl) (by decide) xb.L.toArray)
   rw [hw] at dZ
   clear hw
   refine hK.out _ _ aF.out.b fun _ => ?_; clear hK K
   refine zd ?_ _
   go_wp2_with fail
   go_meet
   exact ⟨gP, gQ, xa, xb, rfl, rfl, ⟨aF.out.at 0 rfl, aF.out.at 1 rfl, eB.out, dZ.out, uZ.out, pO.out, aF.out.b⟩⟩
   obtain ⟨gP, v2, hg, hw, aW, iH⟩ := cW.out.allocd (.cells zEn 25 (0, 0))
   go_simp
   try rw [hg]
   generalize hq : World.alloc v1 _ = q
   obtain rfl : v2 = q := hw.symm.trans hq
   clear hg hw hq
   have lY := zh (MK.out.below iH.out)
   refine hK.out _ _ aW.out.b fun _ => ?_; clear hK K
   refine zs 3 5 rfl (fun K hK => ?_) rfl (fun K hK => ?_)
   go_simp
   with_reducible refine (HCB.out _ (aW.out).b).mono ?_
   rintro e v3 ⟨⟨xb, rfl, hxb, hfxb⟩, hb⟩
   have aO := zh (aW.out.call hb)
   have gO := zh (lY.out.below hb)
   have pJ := zh hxb
   have pO := zh hfxb
   clear hxb hfxb
   clear hb
   go_wp2_with fail
   refine hK.out _ _ aO.out.b fun _ => ?_; clear hK K
   refine zr 5 rfl (fun K hK => ?_)
   obtain ⟨gQ, v4, hg, hw, aI, HEv4⟩ := aO.out.allocd (.cells zEn 25 (0, 0))
   go_simp
   try rw [hg]
   generalize hq : World.alloc v3 _ = q
   obtain rfl : v4 = q := hw.symm.trans hq
   clear hg hw hq
   have gM := zh (gO.out.below HEv4.out)
   have gL := zh (pJ.out.below HEv4.out)
   refine hK.out _ _ aI.out.b fun _ => ?_; clear hK K
   refine zr 6 rfl (fun K hK => ?_)
   rw [if_pos (by rfl)]
   refine wp_store_row 25 _ _ rfl gP xa.L.toArray rfl rfl 25 _ (aI.out.at 1 rfl) (bN xa) (by rfl) (cN xa) ?_
   generalize hw : World.setRow v4 _ _ = v5
   have aE := zh (aI.out.set 1 rfl xa.L.toArray)
   rw [hw] at aE
   have eC := zh (gM.out.setRow (aI.out.at 1 rfl) (by decide) xa.L.toArray)
   rw [hw] at eC
   have eA := zh (gL.out.setRow (aI.out.at 1 rfl) (by decide) xa.L.toArray)
   rw [hw] at eA
   clear hw
   refine hK.out _ _ aE.out.b fun _ => ?_; clear hK K
   refine zr 7 rfl (fun K hK => ?_)
   rw [if_pos (by rfl)]
   refine wp_store_row 25 _ _ rfl gQ xb.L.toArray rfl rfl 25 _ (aE.out.at 0 rfl) (bN xb) (by rfl) (cN xb) ?_
   generalize hw : World.setRow v5 _ _ = v6
   have aF := zh (aE.out.set 0 rfl xb.L.toArray)
   rw [hw] at aF
   have eB := zh (eC.out.setRow (aE.out.at 0 rfl) (by decide) xb.L.toArray)
   rw [hw] at eB
   have dZ := zh (eA.out.setRow (aE.out.at 0 rfl) (by decide) xb.L.toArray)
   rw [hw] at dZ
   clear hw
   refine hK.out _ _ aF.out.b fun _ => ?_; clear hK K
   refine zd ?_ _
   go_wp2_with fail
   go_meet
   exact ⟨gP, gQ, xa, xb, rfl, rfl, ⟨aF.out.at 1 rfl, aF.out.at 0 rfl, eB.out, dZ.out, uZ.out, pO.out, aF.out.b⟩⟩
   obtain ⟨gQ, v3, hg, hw, aO, HEv3⟩ := aW.out.allocd (.cells zEn 25 (0, 0))
   go_simp
   try rw [hg]
   generalize hq : World.alloc v2 _ = q
   obtain rfl : v3 = q := hw.symm.trans hq
   clear hg hw hq
   have gO := zh (lY.out.below HEv3.out)
   refine hK.out _ _ aO.out.b fun _ => ?_; clear hK K
   refine zr 3 rfl (fun K hK => ?_)
   go_simp
   with_reducible refine (HCB.out _ (aO.out).b).mono ?_
   rintro e v4 ⟨⟨xb, rfl, hxb, hfxb⟩, hb⟩
   have aI := zh (aO.out.call hb)
   have gM := zh (gO.out.below hb)
   have gL := zh hxb
   have pO := zh hfxb
   clear hxb hfxb
   clear hb
   go_wp2_with fail
   refine hK.out _ _ aI.out.b fun _ => ?_; clear hK K
   refine zr 6 rfl (fun K hK => ?_)
   rw [if_pos (by rfl)]
   refine wp_store_row 25 _ _ rfl gP xa.L.toArray rfl rfl 25 _ (aI.out.at 1 rfl) (bN xa) (by rfl) (cN xa) ?_
   generalize hw : World.setRow v4 _ _ = v5
   have aE := zh (aI.out.set 1 rfl xa.L.toArray)
   rw [hw] at aE
   have eC := zh (gM.out.setRow (aI.out.at 1 rfl) (by decide) xa.L.toArray)
   rw [hw] at eC
   have eA := zh (gL.out.setRow (aI.out.at 1 rfl) (by decide) xa.L.toArray)
   rw [hw] at eA
   clear hw
   refine hK.out _ _ aE.out.b fun _ => ?_; clear hK K
   refine zr 7 rfl (fun K hK => ?_)
   rw [if_pos (by rfl)]
   refine wp_store_row 25 _ _ rfl gQ xb.L.toArray rfl rfl 25 _ (aE.out.at 0 rfl) (bN xb) (by rfl) (cN xb) ?_
   generalize hw : World.setRow v5 _ _ = v6
   have aF := zh (aE.out.set 0 rfl xb.L.toArray)
   rw [hw] at aF
   have eB := zh (eC.out.setRow (aE.out.at 0 rfl) (by decide) xb.L.toArray)
   rw [hw] at eB
   have dZ := zh (eA.out.setRow (aE.out.at 0 rfl) (by decide) xb.L.toArray)
   rw [hw] at dZ
   clear hw
   refine hK.out _ _ aF.out.b fun _ => ?_; clear hK K
   refine zd ?_ _
   go_wp2_with fail
   go_meet
   exact ⟨gP, gQ, xa, xb, rfl, rfl, ⟨aF.out.at 1 rfl, aF.out.at 0 rfl, eB.out, dZ.out, uZ.out, pO.out, aF.out.b⟩⟩
   obtain ⟨gQ, v2, hg, hw, aW, iH⟩ := cW.out.allocd (.cells zEn 25 (0, 0))
   go_simp
   try rw [hg]
   generalize hq : World.alloc v1 _ = q
   obtain rfl : v2 = q := hw.symm.trans hq
   clear hg hw hq
   have lY := zh (MK.out.below iH.out)
   refine hK.out _ _ aW.out.b fun _ => ?_; clear hK K
   refine zs 3 4 rfl (fun K hK => ?_) rfl (fun K hK => ?_)
   go_simp
   with_reducible refine (HCB.out _ (aW.out).b).mono ?_
   rintro e v3 ⟨⟨xb, rfl, hxb, hfxb⟩, hb⟩
   have aO := zh (aW.out.call hb)
   have gO := zh (lY.out.below hb)
   have pJ := zh hxb
   have pO := zh hfxb
   clear hxb hfxb
   clear hb
   go_wp2_with fail
   refine hK.out _ _ aO.out.b fun _ => ?_; clear hK K
   refine zr 4 rfl (fun K hK => ?_)
   obtain ⟨gP, v4, hg, hw, aI, HEv4⟩ := aO.out.allocd (.cells zEn 25 (0, 0))
   go_simp
   try rw [hg]
   generalize hq : World.alloc v3 _ = q
   obtain rfl : v4 = q := hw.symm.trans hq
   clear hg hw hq
   have gM := zh (gO.out.below HEv4.out)
   have gL := zh (pJ.out.below HEv4.out)
   refine hK.out _ _ aI.out.b fun _ => ?_; clear hK K
   refine zr 6 rfl (fun K hK => ?_)
   rw [if_pos (by rfl)]
   refine wp_store_row 25 _ _ rfl gP xa.L.toArray rfl rfl 25 _ (aI.out.at 0 rfl) (bN xa) (by rfl) (cN xa) ?_
   generalize hw : World.setRow v4 _ _ = v5
   have aE := zh (aI.out.set 0 rfl xa.L.toArray)
   rw [hw] at aE
   have eC := zh (gM.out.setRow (aI.out.at 0 rfl) (by decide) xa.L.toArray)
   rw [hw] at eC
   have eA := zh (gL.out.setRow (aI.out.at 0 rfl) (by decide) xa.L.toArray)
   rw [hw] at eA
   clear hw
   refine hK.out _ _ aE.out.b fun _ => ?_; clear hK K
   refine zr 7 rfl (fun K hK => ?_)
   rw [if_pos (by rfl)]
   refine wp_store_row 25 _ _ rfl gQ xb.L.toArray rfl rfl 25 _ (aE.out.at 1 rfl) (bN xb) (by rfl) (cN xb) ?_
   generalize hw : World.setRow v5 _ _ = v6
   have aF := zh (aE.out.set 1 rfl xb.L.toArray)
   rw [hw] at aF
   have eB := zh (eC.out.setRow (aE.out.at 1 rfl) (by decide) xb.L.toArray)
   rw [hw] at eB
   have dZ := zh (eA.out.setRow (aE.out.at 1 rfl) (by decide) xb.L.toArray)
   rw [hw] at dZ
   clear hw
   refine hK.out _ _ aF.out.b fun _ => ?_; clear hK K
   refine zd ?_ _
   go_wp2_with fail
   go_meet
   exact ⟨gP, gQ, xa, xb, rfl, rfl, ⟨aF.out.at 0 rfl, aF.out.at 1 rfl, eB.out, dZ.out, uZ.out, pO.out, aF.out.b⟩⟩
   obtain ⟨gP, v3, hg, hw, aO, HEv3⟩ := aW.out.allocd (.cells zEn 25 (0, 0))
   go_simp
   try rw [hg]
   generalize hq : World.alloc v2 _ = q
   obtain rfl : v3 = q := hw.symm.trans hq
   clear hg hw hq
   have gO := zh (lY.out.below HEv3.out)
   refine hK.out _ _ aO.out.b fun _ => ?_; clear hK K
   refine zr 3 rfl (fun K hK => ?_)
   go_simp
   with_reducible refine (HCB.out _ (aO.out).b).mono ?_
   rintro e v4 ⟨⟨xb, rfl, hxb, hfxb⟩, hb⟩
   have aI := zh (aO.out.call hb)
   have gM := zh (gO.out.below hb)
   have gL := zh hxb
   have pO := zh hfxb
   clear hxb hfxb
   clear hb
   go_wp2_with fail
   refine hK.out _ _ aI.out.b fun _ => ?_; clear hK K
   refine zr 6 rfl (fun K hK => ?_)
   rw [if_pos (by rfl)]
   refine wp_store_row 25 _ _ rfl gP xa.L.toArray rfl rfl 25 _ (aI.out.at 0 rfl) (bN xa) (by rfl) (cN xa) ?_
   generalize hw : World.setRow v4 _ _ = v5
   have aE := zh (aI.out.set 0 rfl xa.L.toArray)
   rw [hw] at aE
   have eC := zh (gM.out.setRow (aI.out.at 0 rfl) (by decide) xa.L.toArray)
   rw [hw] at eC
   have eA := zh (gL.out.setRow (aI.out.at 0 rfl) (by decide) xa.L.toArray)
   rw [hw] at eA
   clear hw
   refine hK.out _ _ aE.out.b fun _ => ?_; clear hK K
   refine zr 7 rfl (fun K hK => ?_)
   rw [if_pos (by rfl)]
   refine wp_store_row 25 _ _ rfl gQ xb.L.toArray rfl rfl 25 _ (aE.out.at 1 rfl) (bN xb) (by rfl) (cN xb) ?_
   generalize hw : World.setRow v5 _ _ = v6
   have aF := zh (aE.out.set 1 rfl xb.L.toArray)
   rw [hw] at aF
   have eB := zh (eC.out.setRow (aE.out.at 1 rfl) (by decide) xb.L.toArray)
   rw [hw] at eB
   have dZ := zh (eA.out.setRow (aE.out.at 1 rfl) (by decide) xb.L.toArray)
   rw [hw] at dZ
   clear hw
   refine hK.out _ _ aF.out.b fun _ => ?_; clear hK K
   refine zd ?_ _
   go_wp2_with fail
   go_meet
   exact ⟨gP, gQ, xa, xb, rfl, rfl, ⟨aF.out.at 0 rfl, aF.out.at 1 rfl, eB.out, dZ.out, uZ.out, pO.out, aF.out.b⟩⟩
   obtain ⟨gP, v1, hg, hw, cW, oG⟩ := AG.out.allocdD (.cells zEn 25 (0, 0))
   go_simp
   try rw [hg]
   generalize hq : World.drew (World.alloc w2 _) = q
   obtain rfl : v1 = q := hw.symm.trans hq
   clear hg hw hq
   refine hK.out _ _ cW.out.b fun _ => ?_; clear hK K
   refine zs 1 5 rfl (fun K hK => ?_) rfl (fun K hK => ?_)
   go_simp
   with_reducible refine (HCA.out _ (cW.out).b).mono ?_
   rintro e v2 ⟨⟨xa, rfl, hxa, hfxa⟩, hb⟩
   have aW := zh (cW.out.call hb)
   have lY := zh hxa
   have uZ := zh hfxa
   clear hxa hfxa
   clear hb
   go_wp2_with fail
   refine hK.out _ _ aW.out.b fun _ => ?_; clear hK K
   refine zs 3 5 rfl (fun K hK => ?_) rfl (fun K hK => ?_)
   go_simp
   with_reducible refine (HCB.out _ (aW.out).b).mono ?_
   rintro e v3 ⟨⟨xb, rfl, hxb, hfxb⟩, hb⟩
   have aO := zh (aW.out.call hb)
   have gO := zh (lY.out.below hb)
   have pJ := zh hxb
   have pO := zh hfxb
   clear hxb hfxb
   clear hb
   go_wp2_with fail
   refine hK.out _ _ aO.out.b fun _ => ?_; clear hK K
   refine zr 5 rfl (fun K hK => ?_)
   obtain ⟨gQ, v4, hg, hw, aI, HEv4⟩ := aO.out.allocd (.cells zEn 25 (0, 0))
   go_simp
   try rw [hg]
   generalize hq : World.alloc v3 _ = q
   obtain rfl : v4 = q := hw.symm.trans hq
   clear hg hw hq
   have gM := zh (gO.out.below HEv4.out)
   have gL := zh (pJ.out.below HEv4.out)
   refine hK.out _ _ aI.out.b fun _ => ?_; clear hK K
   refine zr 6 rfl (fun K hK => ?_)
   rw [if_pos (by rfl)]
   refine wp_store_row 25 _ _ rfl gP xa.L.toArray rfl rfl 25 _ (aI.out.at 1 rfl) (bN xa) (by rfl) (cN xa) ?_
   generalize hw : World.setRow v4 _ _ = v5
   have aE := zh (aI.out.set 1 rfl xa.L.toArray)
   rw [hw] at aE
   have eC := zh (gM.out.setRow (aI.out.at 1 rfl) (by decide) xa.L.toArray)
   rw [hw] at eC
   have eA := zh (gL.out.setRow (aI.out.at 1 rfl) (by decide) xa.L.toArray)
   rw [hw] at eA
   clear hw
   refine hK.out _ _ aE.out.b fun _ => ?_; clear hK K
   refine zr 7 rfl (fun K hK => ?_)
   rw [if_pos (by rfl)]
   refine wp_store_row 25 _ _ rfl gQ xb.L.toArray rfl rfl 25 _ (aE.out.at 0 rfl) (bN xb) (by rfl) (cN xb) ?_
   generalize hw : World.setRow v5 _ _ = v6
   have aF := zh (aE.out.set 0 rfl xb.L.toArray)
   rw [hw] at aF
   have eB := zh (eC.out.setRow (aE.out.at 0 rfl) (by decide) xb.L.toArray)
   rw [hw] at eB
   have dZ := zh (eA.out.setRow (aE.out.at 0 rfl) (by decide) xb.L.toArray)
   rw [hw] at dZ
   clear hw
   refine hK.out _ _ aF.out.b fun _ => ?_; clear hK K
   refine zd ?_ _
   go_wp2_with fail
   go_meet
   exact ⟨gP, gQ, xa, xb, rfl, rfl, ⟨aF.out.at 1 rfl, aF.out.at 0 rfl, eB.out, dZ.out, uZ.out, pO.out, aF.out.b⟩⟩
   obtain ⟨gQ, v3, hg, hw, aO, HEv3⟩ := aW.out.allocd (.cells zEn 25 (0, 0))
   go_simp
   try rw [hg]
   generalize hq : World.alloc v2 _ = q
   obtain rfl : v3 = q := hw.symm.trans hq
   clear hg hw hq
   have gO := zh (lY.out.below HEv3.out)
   refine hK.out _ _ aO.out.b fun _ => ?_; clear hK K
   refine zr 3 rfl (fun K hK => ?_)
   go_simp
   with_reducible refine (HCB.out _ (aO.out).b).mono ?_
   rintro e v4 ⟨⟨xb, rfl, hxb, hfxb⟩, hb⟩
   have aI := zh (aO.out.call hb)
   have gM := zh (gO.out.below hb)
   have gL := zh hxb
   have pO := zh hfxb
   clear hxb hfxb
   clear hb
   go_wp2_with fail
   refine hK.out _ _ aI.out.b fun _ => ?_; clear hK K
   refine zr 6 rfl (fun K hK => ?_)
   rw [if_pos (by rfl)]
   refine wp_store_row 25 _ _ rfl gP xa.L.toArray rfl rfl 25 _ (aI.out.at 1 rfl) (bN xa) (by rfl) (cN xa) ?_
   generalize hw : World.setRow v4 _ _ = v5
   have aE := zh (aI.out.set 1 rfl xa.L.toArray)
   rw [hw] at aE
   have eC := zh (gM.out.setRow (aI.out.at 1 rfl) (by decide) xa.L.toArray)
   rw [hw] at eC
   have eA := zh (gL.out.setRow (aI.out.at 1 rfl) (by decide) xa.L.toArray)
   rw [hw] at eA
   clear hw
   refine hK.out _ _ aE.out.b fun _ => ?_; clear hK K
   refine zr 7 rfl (fun K hK => ?_)
   rw [if_pos (by rfl)]
   refine wp_store_row 25 _ _ rfl gQ xb.L.toArray rfl rfl 25 _ (aE.out.at 0 rfl) (bN xb) (by rfl) (cN xb) ?_
   generalize hw : World.setRow v5 _ _ = v6
   have aF := zh (aE.out.set 0 rfl xb.L.toArray)
   rw [hw] at aF
   have eB := zh (eC.out.setRow (aE.out.at 0 rfl) (by decide) xb.L.toArray)
   rw [hw] at eB
   have dZ := zh (eA.out.setRow (aE.out.at 0 rfl) (by decide) xb.L.toArray)
   rw [hw] at dZ
   clear hw
   refine hK.out _ _ aF.out.b fun _ => ?_; clear hK K
   refine zd ?_ _
   go_wp2_with fail
   go_meet
   exact ⟨gP, gQ, xa, xb, rfl, rfl, ⟨aF.out.at 1 rfl, aF.out.at 0 rfl, eB.out, dZ.out, uZ.out, pO.out, aF.out.b⟩⟩
   obtain ⟨gQ, v2, hg, hw, aW, iH⟩ := cW.out.allocd (.cells zEn 25 (0, 0))
   go_simp
   try rw [hg]
   generalize hq : World.alloc v1 _ = q
   obtain rfl : v2 = q := hw.symm.trans hq
   clear hg hw hq
   refine hK.out _ _ aW.out.b fun _ => ?_; clear hK K
   refine zr 1 rfl (fun K hK => ?_)
   go_simp
   with_reducible refine (HCA.out _ (aW.out).b).mono ?_
   rintro e v3 ⟨⟨xa, rfl, hxa, hfxa⟩, hb⟩
   have aO := zh (aW.out.call hb)
   have gO := zh hxa
   have uZ := zh hfxa
   clear hxa hfxa
   clear hb
   go_wp2_with fail
   refine hK.out _ _ aO.out.b fun _ => ?_; clear hK K
   refine zr 3 rfl (fun K hK => ?_)
   go_simp
   with_reducible refine (HCB.out _ (aO.out).b).mono ?_
   rintro e v4 ⟨⟨xb, rfl, hxb, hfxb⟩, hb⟩
   have aI := zh (aO.out.call hb)
   have gM := zh (gO.out.below hb)
   have gL := zh hxb
   have pO := zh hfxb
   clear hxb hfxb
   clear hb
   go_wp2_with fail
   refine hK.out _ _ aI.out.b fun _ => ?_; clear hK K
   refine zr 6 rfl (fun K hK => ?_)
   rw [if_pos (by rfl)]
   refine wp_store_row 25 _ _ rfl gP xa.L.toArray rfl rfl 25 _ (aI.out.at 1 rfl) (bN xa) (by rfl) (cN xa) ?_
   generalize hw : World.setRow v4 _ _ = v5
   have aE := zh (aI.out.set 1 rfl xa.L.toArray)
   rw [hw] at aE
   have eC := zh (gM.out.setRow (aI.out.at 1 rfl) (by decide) xa.L.toArray)
   rw [hw] at eC
   have eA := zh (gL.out.setRow (aI.out.at 1 rfl) (by decide) xa.L.toArray)
   rw [hw] at eA
   clear hw
   refine hK.out _ _ aE.out.b fun _ => ?_; clear hK K
   refine zr 7 rfl (fun K hK => ?_)
   rw [if_pos (by rfl)]
   refine wp_store_row 25 _ _ rfl gQ xb.L.toArray rfl rfl 25 _ (aE.out.at 0 rfl) (bN xb) (by rfl) (cN xb) ?_
   generalize hw : World.setRow v5 _ _ = v6
   have aF := zh (aE.out.set 0 rfl xb.L.toArray)
   rw [hw] at aF
   have eB := zh (eC.out.setRow (aE.out.at 0 rfl) (by decide) xb.L.toArray)
   rw [hw] at eB
   have dZ := zh (eA.out.setRow (aE.out.at 0 rfl) (by decide) xb.L.toArray)
   rw [hw] at dZ
   clear hw
   refine hK.out _ _ aF.out.b fun _ => ?_; clear hK K
   refine zd ?_ _
   go_wp2_with fail
   go_meet
   exact ⟨gP, gQ, xa, xb, rfl, rfl, ⟨aF.out.at 1 rfl, aF.out.at 0 rfl, eB.out, dZ.out, uZ.out, pO.out, aF.out.b⟩⟩
   obtain ⟨gQ, v1, hg, hw, cW, oG⟩ := AG.out.allocdD (.cells zEn 25 (0, 0))
   go_simp
   try rw [hg]
   generalize hq : World.drew (World.alloc w2 _) = q
   obtain rfl : v1 = q := hw.symm.trans hq
   clear hg hw hq
   refine hK.out _ _ cW.out.b fun _ => ?_; clear hK K
   refine zs 1 4 rfl (fun K hK => ?_) rfl (fun K hK => ?_)
   go_simp
   with_reducible refine (HCA.out _ (cW.out).b).mono ?_
   rintro e v2 ⟨⟨xa, rfl, hxa, hfxa⟩, hb⟩
   have aW := zh (cW.out.call hb)
   have lY := zh hxa
   have uZ := zh hfxa
   clear hxa hfxa
   clear hb
   go_wp2_with fail
   refine hK.out _ _ aW.out.b fun _ => ?_; clear hK K
   refine zs 3 4 rfl (fun K hK => ?_) rfl (fun K hK => ?_)
   go_simp
   with_reducible refine (HCB.out _ (aW.out).b).mono ?_
   rintro e v3 ⟨⟨xb, rfl, hxb, hfxb⟩, hb⟩
   have aO := zh (aW.out.call hb)
   have gO := zh (lY.out.below hb)
   have pJ := zh hxb
   have pO := zh hfxb
   clear hxb hfxb
   clear hb
   go_wp2_with fail
   refine hK.out _ _ aO.out.b fun _ => ?_; clear hK K
   refine zr 4 rfl (fun K hK => ?_)
   obtain ⟨gP, v4, hg, hw, aI, HEv4⟩ := aO.out.allocd (.cells zEn 25 (0, 0))
   go_simp
   try rw [hg]
   generalize hq : World.alloc v3 _ = q
   obtain rfl : v4 = q := hw.symm.trans hq
   clear hg hw hq
   have gM := zh (gO.out.below HEv4.out)
   have gL := zh (pJ.out.below HEv4.out)
   refine hK.out _ _ aI.out.b fun _ => ?_; clear hK K
   refine zr 6 rfl (fun K hK => ?_)
   rw [if_pos (by rfl)]
   refine wp_store_row 25 _ _ rfl gP xa.L.toArray rfl rfl 25 _ (aI.out.at 0 rfl) (bN xa) (by rfl) (cN xa) ?_
   generalize hw : World.setRow v4 _ _ = v5
   have aE := zh (aI.out.set 0 rfl xa.L.toArray)
   rw [hw] at aE
   have eC := zh (gM.out.setRow (aI.out.at 0 rfl) (by decide) xa.L.toArray)
   rw [hw] at eC
   have eA := zh (gL.out.setRow (aI.out.at 0 rfl) (by decide) xa.L.toArray)
   rw [hw] at eA
   clear hw
   refine hK.out _ _ aE.out.b fun _ => ?_; clear hK K
   refine zr 7 rfl (fun K hK => ?_)
   rw [if_pos (by rfl)]
   refine wp_store_row 25 _ _ rfl gQ xb.L.toArray rfl rfl 25 _ (aE.out.at 1 rfl) (bN xb) (by rfl) (cN xb) ?_
   generalize hw : World.setRow v5 _ _ = v6
   have aF := zh (aE.out.set 1 rfl xb.L.toArray)
   rw [hw] at aF
   have eB := zh (eC.out.setRow (aE.out.at 1 rfl) (by decide) xb.L.toArray)
   rw [hw] at eB
   have dZ := zh (eA.out.setRow (aE.out.at 1 rfl) (by decide) xb.L.toArray)
   rw [hw] at dZ
   clear hw
   refine hK.out _ _ aF.out.b fun _ => ?_; clear hK K
   refine zd ?_ _
   go_wp2_with fail
   go_meet
   exact ⟨gP, gQ, xa, xb, rfl, rfl, ⟨aF.out.at 0 rfl, aF.out.at 1 rfl, eB.out, dZ.out, uZ.out, pO.out, aF.out.b⟩⟩
   obtain ⟨gP, v3, hg, hw, aO, HEv3⟩ := aW.out.allocd (.cells zEn 25 (0, 0))
   go_simp
   try rw [hg]
   generalize hq : World.alloc v2 _ = q
   obtain rfl : v3 = q := hw.symm.trans hq
   clear hg hw hq
   have gO := zh (lY.out.below HEv3.out)
   refine hK.out _ _ aO.out.b fun _ => ?_; clear hK K
   refine zr 3 rfl (fun K hK => ?_)
   go_simp
   with_reducible refine (HCB.out _ (aO.out).b).mono ?_
   rintro e v4 ⟨⟨xb, rfl, hxb, hfxb⟩, hb⟩
   have aI := zh (aO.out.call hb)
   have gM := zh (gO.out.below hb)
   have gL := zh hxb
   have pO := zh hfxb
   clear hxb hfxb
   clear hb
   go_wp2_with fail
   refine hK.out _ _ aI.out.b fun _ => ?_; clear hK K
   refine zr 6 rfl (fun K hK => ?_)
   rw [if_pos (by rfl)]
   refine wp_store_row 25 _ _ rfl gP xa.L.toArray rfl rfl 25 _ (aI.out.at 0 rfl) (bN xa) (by rfl) (cN xa) ?_
   generalize hw : World.setRow v4 _ _ = v5
   have aE := zh (aI.out.set 0 rfl xa.L.toArray)
   rw [hw] at aE
   have eC := zh (gM.out.setRow (aI.out.at 0 rfl) (by decide) xa.L.toArray)
   rw [hw] at eC
   have eA := zh (gL.out.setRow (aI.out.at 0 rfl) (by decide) xa.L.toArray)
   rw [hw] at eA
   clear hw
   refine hK.out _ _ aE.out.b fun _ => ?_; clear hK K
   refine zr 7 rfl (fun K hK => ?_)
   rw [if_pos (by rfl)]
   refine wp_store_row 25 _ _ rfl gQ xb.L.toArray rfl rfl 25 _ (aE.out.at 1 rfl) (bN xb) (by rfl) (cN xb) ?_
   generalize hw : World.setRow v5 _ _ = v6
   have aF := zh (aE.out.set 1 rfl xb.L.toArray)
   rw [hw] at aF
   have eB := zh (eC.out.setRow (aE.out.at 1 rfl) (by decide) xb.L.toArray)
   rw [hw] at eB
   have dZ := zh (eA.out.setRow (aE.out.at 1 rfl) (by decide) xb.L.toArray)
   rw [hw] at dZ
   clear hw
   refine hK.out _ _ aF.out.b fun _ => ?_; clear hK K
   refine zd ?_ _
   go_wp2_with fail
   go_meet
   exact ⟨gP, gQ, xa, xb, rfl, rfl, ⟨aF.out.at 0 rfl, aF.out.at 1 rfl, eB.out, dZ.out, uZ.out, pO.out, aF.out.b⟩⟩
   obtain ⟨gP, v2, hg, hw, aW, iH⟩ := cW.out.allocd (.cells zEn 25 (0, 0))
   go_simp
   try rw [hg]
   generalize hq : World.alloc v1 _ = q
   obtain rfl : v2 = q := hw.symm.trans hq
   clear hg hw hq
   refine hK.out _ _ aW.out.b fun _ => ?_; clear hK K
   refine zr 1 rfl (fun K hK => ?_)
   go_simp
   with_reducible refine (HCA.out _ (aW.out).b).mono ?_
   rintro e v3 ⟨⟨xa, rfl, hxa, hfxa⟩, hb⟩
   have aO := zh (aW.out.call hb)
   have gO := zh hxa
   have uZ := zh hfxa
   clear hxa hfxa
   clear hb
   go_wp2_with fail
   refine hK.out _ _ aO.out.b fun _ => ?_; clear hK K
   refine zr 3 rfl (fun K hK => ?_)
   go_simp
   with_reducible refine (HCB.out _ (aO.out).b).mono ?_
   rintro e v4 ⟨⟨xb, rfl, hxb, hfxb⟩, hb⟩
   have aI := zh (aO.out.call hb)
   have gM := zh (gO.out.below hb)
   have gL := zh hxb
   have pO := zh hfxb
   clear hxb hfxb
   clear hb
   go_wp2_with fail
   refine hK.out _ _ aI.out.b fun _ => ?_; clear hK K
   refine zr 6 rfl (fun K hK => ?_)
   rw [if_pos (by rfl)]
   refine wp_store_row 25 _ _ rfl gP xa.L.toArray rfl rfl 25 _ (aI.out.at 0 rfl) (bN xa) (by rfl) (cN xa) ?_
   generalize hw : World.setRow v4 _ _ = v5
   have aE := zh (aI.out.set 0 rfl xa.L.toArray)
   rw [hw] at aE
   have eC := zh (gM.out.setRow (aI.out.at 0 rfl) (by decide) xa.L.toArray)
   rw [hw] at eC
   have eA := zh (gL.out.setRow (aI.out.at 0 rfl) (by decide) xa.L.toArray)
   rw [hw] at eA
   clear hw
   refine hK.out _ _ aE.out.b fun _ => ?_; clear hK K
   refine zr 7 rfl (fun K hK => ?_)
   rw [if_pos (by rfl)]
   refine wp_store_row 25 _ _ rfl gQ xb.L.toArray rfl rfl 25 _ (aE.out.at 1 rfl) (bN xb) (by rfl) (cN xb) ?_
   generalize hw : World.setRow v5 _ _ = v6
   have aF := zh (aE.out.set 1 rfl xb.L.toArray)
   rw [hw] at aF
   have eB := zh (eC.out.setRow (aE.out.at 1 rfl) (by decide) xb.L.toArray)
   rw [hw] at eB
   have dZ := zh (eA.out.setRow (aE.out.at 1 rfl) (by decide) xb.L.toArray)
   rw [hw] at dZ
   clear hw
   refine hK.out _ _ aF.out.b fun _ => ?_; clear hK K
   refine zd ?_ _
   go_wp2_with fail
   go_meet
   exact ⟨gP, gQ, xa, xb, rfl, rfl, ⟨aF.out.at 0 rfl, aF.out.at 1 rfl, eB.out, dZ.out, uZ.out, pO.out, aF.out.b⟩⟩
 case rest =>
 obtain ⟨gP, gQ, x, y, rfl, rfl, HQ⟩ := hcut
 obtain ⟨w3, hw3⟩ : ∃ w3, w3 = wc := ⟨_, rfl⟩
 subst hw3
 have HT3 : Hid (TwoE gP gQ x y w w3) := ⟨HQ.out.1, HQ.out.2.1, HQ.out.2.2.1, HQ.out.2.2.2.1, HQ2.out.b.trans (HQ.out.2.2.2.2.2.2.mono (by have := HLT.out; omega))⟩
 have HFX := zh HQ.out.2.2.2.2.1; have HFY := zh HQ.out.2.2.2.2.2.1
 have HV : Hid (TwoV B0 (x.l.map pg) (y.l.map pg)) := ⟨HFX.out.2.2.2, HFY.out.2.2.2, by rw [List.length_map, (EvX.s HT3.out.x).len]; exact HFX.out.2.2.1, by rw [List.length_map, (EvX.s HT3.out.y).len]; exact HFY.out.2.2.1⟩
 clear AG HCA HCB HC2 HD2 HQ HQ2 HLT HBe HP0 HSN HSD HKA HKC
 have HKW : Hid (∀ w', Below w.heap.size w w' → KayIn w' ∧ 1 < w'.heap.size) := fun w' hb => ⟨HK.out.below hb hk0, Nat.lt_of_lt_of_le hk0 hb.size⟩
 have HJ1 : Hid (∀ w', x.ok w' → y.ok w' → Below w.heap.size w w' → Calls Tryz.prog 9 #[.agg x.L.toArray, .agg y.L.toArray] w' (JnR ⟨0, bQ, B0, jnL (dQ bQ B0) (x.l.map pg) (y.l.map pg)⟩ w')) := fun w' hx hy hb => by
  have h := uA x.t x.sp x.n x.cap x.b x.sq x.m x.cq x.l y.t y.sp y.n y.cap y.b y.sq y.m y.cq y.l w' hx hy (HKW.out w' hb).1 (HKW.out w' hb).2
  rw [HFX.out.1, HFX.out.2.1, HFY.out.1, HFY.out.2.1, HV.out.E] at h
  show Calls Tryz.prog 9 #[.agg (enA x.t (.slice x.sp x.n x.cap) (.slice x.sq x.m x.cq)), .agg (enA y.t (.slice y.sp y.n y.cap) (.slice y.sq y.m y.cq))] w' _
  rw [HFX.out.1, HFY.out.1]; exact h
 have HJ2 : Hid (∀ w', x.ok w' → y.ok w' → Below w.heap.size w w' → Calls Tryz.prog 9 #[.agg y.L.toArray, .agg x.L.toArray] w' (JnR ⟨0, bQ, B0, jnL (dQ bQ B0) (y.l.map pg) (x.l.map pg)⟩ w')) := fun w' hx hy hb => by
  have h := uA y.t y.sp y.n y.cap y.b y.sq y.m y.cq y.l x.t x.sp x.n x.cap x.b x.sq x.m x.cq x.l w' hy hx (HKW.out w' hb).1 (HKW.out w' hb).2
  rw [HFX.out.1, HFX.out.2.1, HFY.out.1, HFY.out.2.1, HV.out.swap.E] at h
  show Calls Tryz.prog 9 #[.agg (enA y.t (.slice y.sp y.n y.cap) (.slice y.sq y.m y.cq)), .agg (enA x.t (.slice x.sp x.n x.cap) (.slice x.sq x.m x.cq))] w' _
  rw [HFX.out.1, HFY.out.1]; exact h
 have HIX := zh (bN x); have HIY := zh (bN y)
 obtain ⟨J1, hJ1⟩ : ∃ J, J = jnL (dQ bQ B0) (x.l.map pg) (y.l.map pg) := ⟨_, rfl⟩
 obtain ⟨J2, hJ2⟩ : ∃ J, J = jnL (dQ bQ B0) (y.l.map pg) (x.l.map pg) := ⟨_, rfl⟩
 rw [← hJ1] at HJ1; rw [← hJ2] at HJ2
 have HJ1e := zh hJ1; have HJ2e := zh hJ2
 clear hJ1 hJ2
 go_wp2_with (first
  | (refine wpList_load_row rfl 25 _ rfl gP rfl 25 _ (0, 0) _ HT3.out.p Tryz.underlying25 rfl HIX.out ?_)
  | (refine wpList_load_row rfl 25 _ rfl gQ rfl 25 _ (0, 0) _ HT3.out.q Tryz.underlying25 rfl HIY.out ?_))
 refine (HJ1.out w3 HT3.out.x HT3.out.y HT3.out.b).mono ?_
 rintro e w4 ⟨x1, y1, z1, x2, y2, z2, l5, rfl, hp5, hs5, hl5, hb⟩
 have HT4 : Hid (TwoE gP gQ x y w w4) := HT3.out.below hb
 have HP5 := zh hp5; have HS5 := zh hs5; have HL5 := zh hl5
 clear hb hp5 hs5 hl5 HT3 HJ1
 go_upto_region 5 with (refine wpList_store_row rfl 25 _ _ rfl w4.heap.size (enA bQ (.slice x1 y1 z1) (.slice x2 y2 z2)) rfl rfl 25 _ (heap_alloc_new w4 _) (aL _ _ _) rfl (cJ _ _ _ _ _ _ _) ?_; rw [bW]; generalize hw5 : World.alloc w4 _ = w5; have HA5 : Hid (w5.heap[w4.heap.size]? = some (.cells (enA bQ (.slice x1 y1 z1) (.slice x2 y2 z2)) 25 (0, 0))) := (by rw [← hw5]; exact heap_alloc_new _ _); have sK : Hid (Below w4.heap.size w4 w5) := (by rw [← hw5]; exact aB _ _); clear hw5)
 obtain ⟨gX, hgX⟩ : ∃ gX, gX = w4.heap.size := ⟨_, rfl⟩
 have HX5 : Hid (JnB gX B0 J1 w5) := ⟨⟨bQ, x1, y1, z1, B0, x2, y2, z2, l5⟩, by rw [hgX]; exact HA5.out, rfl, (HP5.out.below sK.out (Nat.le_refl _)).more sK.out.size, rfl, HS5.out.up sK.out (Nat.le_refl _), HL5.out⟩
 have HT5 : Hid (TwoE gP gQ x y w w5) := HT4.out.below sK.out
 rw [← hgX]
 clear HA5 sK HP5 HS5 HL5 HT4 hgX
 go_wp2_with (first
  | (refine wpList_load_row rfl 25 _ rfl gP rfl 25 _ (0, 0) _ HT5.out.p Tryz.underlying25 rfl HIX.out ?_)
  | (refine wpList_load_row rfl 25 _ rfl gQ rfl 25 _ (0, 0) _ HT5.out.q Tryz.underlying25 rfl HIY.out ?_))
 refine (HJ2.out w5 HT5.out.x HT5.out.y HT5.out.b).mono ?_
 rintro e w4 ⟨x1, y1, z1, x2, y2, z2, l5, rfl, hp5, hs5, hl5, hb⟩
 have HT4 : Hid (TwoE gP gQ x y w w4) := HT5.out.below hb
 have HX4 : Hid (JnB gX B0 J1 w4) := HX5.out.below hb
 have HP5 := zh hp5; have HS5 := zh hs5; have HL5 := zh hl5
 clear hb hp5 hs5 hl5 HT5 HJ2 HX5
 go_upto_region 6 with (refine wpList_store_row rfl 25 _ _ rfl w4.heap.size (enA bQ (.slice x1 y1 z1) (.slice x2 y2 z2)) rfl rfl 25 _ (heap_alloc_new w4 _) (aL _ _ _) rfl (cJ _ _ _ _ _ _ _) ?_; rw [bW]; generalize hw5 : World.alloc w4 _ = w6; have HA5 : Hid (w6.heap[w4.heap.size]? = some (.cells (enA bQ (.slice x1 y1 z1) (.slice x2 y2 z2)) 25 (0, 0))) := (by rw [← hw5]; exact heap_alloc_new _ _); have sK : Hid (Below w4.heap.size w4 w6) := (by rw [← hw5]; exact aB _ _); clear hw5)
 obtain ⟨gY, hgY⟩ : ∃ gY, gY = w4.heap.size := ⟨_, rfl⟩
 have HY6 : Hid (JnB gY B0 J2 w6) := ⟨⟨bQ, x1, y1, z1, B0, x2, y2, z2, l5⟩, by rw [hgY]; exact HA5.out, rfl, (HP5.out.below sK.out (Nat.le_refl _)).more sK.out.size, rfl, HS5.out.up sK.out (Nat.le_refl _), HL5.out⟩
 have HX6 : Hid (JnB gX B0 J1 w6) := HX4.out.below sK.out
 have HT6 : Hid (TwoE gP gQ x y w w6) := HT4.out.below sK.out
 rw [← hgY]
 clear HA5 sK HP5 HS5 HL5 HT4 HX4 hgY HIX HIY
 have HSG : Hid (∀ (v : EvS) (J : List Pg) w', v.t = bQ → BSrc w' w'.heap.size v.sp v.n v.cap v.b → v.b = B0 → SgsIn w' w'.heap.size v.sq v.m v.cq v.l → v.l.map pg = J → Below w.heap.size w w' → Calls Tryz.prog 13 #[.agg v.L.toArray] w' fun e w'' => (∃ s c, e = .returned (.slice s (kL bQ B0 J).length c) ∧ SgnD s c (kL bQ B0 J) w'') ∧ Below w'.heap.size w' w'') := fun v J w' ht hp hb hs hj hbe => by
  have h := oL v.t v.sp v.n v.cap v.b v.sq v.m v.cq v.l w' (by rw [ht]; decide) hp hs (HKW.out w' hbe).1 (HKW.out w' hbe).2
  rw [hb, hj, ht] at h
  show Calls Tryz.prog 13 #[.agg (enA v.t (.slice v.sp v.n v.cap) (.slice v.sq v.m v.cq))] w' _
  rw [ht]
  refine h.mono ?_
  rintro e w'' ⟨s, c, he, ho, hb2⟩
  exact ⟨⟨s, c, he, ⟨ho.up rfl⟩⟩, hb2⟩
 obtain ⟨S1, hS1⟩ : ∃ S, S = kL bQ B0 (x.l.map pg) := ⟨_, rfl⟩
 obtain ⟨S2, hS2⟩ : ∃ S, S = kL bQ B0 (y.l.map pg) := ⟨_, rfl⟩
 have HS1n : Hid (S1.length ≤ 8) := by show _ ≤ _; rw [hS1]; exact xJ _ _ _
 have HS2n : Hid (S2.length ≤ 8) := by show _ ≤ _; rw [hS2]; exact xJ _ _ _
 have HEQ : Hid (∀ T, AllD (S1 ++ S2) T → kL bQ B0 J1 = T ∧ kL bQ B0 J2 = T) := fun T hT => by
  rw [HJ1e.out, HJ2e.out]; rw [hS1, hS2] at hT; exact AllD.eq HV.out hT
 obtain ⟨B, hBe⟩ : ∃ B, B = w6.heap.size := ⟨_, rfl⟩
 have HSw6 : Hid (Blks B w6 w6 []) := Blks.start (Below.refl _ _) (Nat.le_of_eq hBe)
 have HP6 := zh HT6.out.p; have HQ6 := zh HT6.out.q
 have HL6 : Hid (gP < B ∧ gQ < B ∧ w.heap.size ≤ B) := ⟨by rw [hBe]; exact (Array.getElem?_eq_some_iff.1 HT6.out.p).1, by rw [hBe]; exact (Array.getElem?_eq_some_iff.1 HT6.out.q).1, by rw [hBe]; exact HT6.out.b.size⟩
 have HG1 : Hid (∀ w', Below B w6 w' → Calls Tryz.prog 13 #[.agg x.L.toArray] w' fun e w'' => (∃ s c, e = .returned (.slice s S1.length c) ∧ SgnD s c S1 w'') ∧ Below w'.heap.size w' w'') := fun w' hb => by
  have hb' : Below w6.heap.size w6 w' := by rw [← hBe]; exact hb
  rw [hS1]; exact HSG.out x _ w' HFX.out.1 (EvX.p (HT6.out.x.below hb')) HFX.out.2.1 (EvX.s (HT6.out.x.below hb')) rfl (HT6.out.b.trans (hb'.mono HT6.out.b.size))
 have HG2 : Hid (∀ w', Below B w6 w' → Calls Tryz.prog 13 #[.agg y.L.toArray] w' fun e w'' => (∃ s c, e = .returned (.slice s S2.length c) ∧ SgnD s c S2 w'') ∧ Below w'.heap.size w' w'') := fun w' hb => by
  have hb' : Below w6.heap.size w6 w' := by rw [← hBe]; exact hb
  rw [hS2]; exact HSG.out y _ w' HFY.out.1 (EvX.p (HT6.out.y.below hb')) HFY.out.2.1 (EvX.s (HT6.out.y.below hb')) rfl (HT6.out.b.trans (hb'.mono HT6.out.b.size))
 have HBe := zh hBe
 clear hBe hS1 hS2 HJ1e HJ2e
 go_upto_region 9 with fail
 go_cut [52, 53, 54] (fun s13 s14 s15 wx => ∃ gR, s13 = .slice (some ⟨gR, 0, none⟩) 2 2 ∧ s14 = .int .i64 2 ∧ s15 = .int .i64 0 ∧ Hid (DgR S1 S2 wx gR ∧ Below B w6 wx))
 case first =>
  as_aux_lemma =>
   refine wp_region_held_drew (S := fun w' => Below B w6 w') (by kernel_rfl) HSw6.out.b.drew (fun hHeld => ?_)
   refine' zk 0 rfl (v := _) (yieldsIf_load_mid (by rfl) _ _ rfl _ _ rfl _ _ ?hS0n3 Tryz.underlying25 rfl (rT _)) ?rest0n3
   case hS0n3 =>
    intro w' hSw
    exact aV (L := x.L) ((hSw.block _ HL6.out.1).trans HP6.out)
   try simp only [Act.put, zA, zB, zC, zD, zE, zF]
   refine' zk 2 rfl (v := _) (yieldsIf_load_mid (by rfl) _ _ rfl _ _ rfl _ _ ?hS2n4 Tryz.underlying25 rfl (rT _)) ?rest2n4
   case hS2n4 =>
    intro w' hSw
    exact aV (L := y.L) ((hSw.block _ HL6.out.2.1).trans HQ6.out)
   try simp only [Act.put, zA, zB, zC, zD, zE, zF]
   refine zv 6 rfl ?_
   refine zr 1 rfl (fun K hK => ?_)
   go_simp
   with_reducible refine (HG1.out _ (HSw6.out.drew).b).mono ?_
   rintro e v1 ⟨⟨sga, cga, rfl, hga⟩, hb⟩
   have cW := zh (HSw6.out.call ((Below.refl _ _).drew.trans hb))
   have HGAv1 := zh hga
   clear hga
   clear hb
   go_wp2_with fail
   refine hK.out _ _ cW.out.b fun _ => ?_; clear hK K
   refine zr 3 rfl (fun K hK => ?_)
   go_simp
   with_reducible refine (HG2.out _ (cW.out).b).mono ?_
   rintro e v2 ⟨⟨sgb, cgb, rfl, hgb⟩, hb⟩
   have aW := zh (cW.out.call hb)
   have HGAv2 := zh (HGAv1.out.below hb)
   have HGBv2 := zh hgb
   clear hgb
   clear hb
   go_wp2_with fail
   refine hK.out _ _ aW.out.b fun _ => ?_; clear hK K
   refine zr 4 rfl (fun K hK => ?_)
   rw [if_pos (by rfl)]
   refine aX 40 2 [(0, .tmp 49), (1, .tmp 51)] rfl [(0, .slice sga S1.length cga), (1, .slice sgb S2.length cgb)] rfl _ _ (JX _ _ _ _ _ _ _) ?_
   obtain ⟨gR, v3, hg, hw, aO, HEv3⟩ := aW.out.allocd (.cells #[.slice sga S1.length cga, .slice sgb S2.length cgb] 38 (0, 0))
   go_simp
   try rw [hg]
   generalize hq : World.alloc v2 _ = q
   obtain rfl : v3 = q := hw.symm.trans hq
   clear hg hw hq
   have HGAv3 := zh (HGAv2.out.below HEv3.out)
   have HGBv3 := zh (HGBv2.out.below HEv3.out)
   refine hK.out _ _ aO.out.b fun _ => ?_; clear hK K
   refine zv 5 rfl ?_
   refine zd ?_ _
   go_wp2_with fail
   go_meet
   exact ⟨gR, rfl, rfl, rfl, DgR.of (aO.out.at 0 rfl) HGAv3.out.d HGBv3.out.d, aO.out.b⟩
 case rest =>
 obtain ⟨gR, rfl, rfl, rfl, HQ⟩ := hcut
 obtain ⟨w7, hw7⟩ : ∃ w7, w7 = wc := ⟨_, rfl⟩
 subst hw7
 have HB67 : Hid (Below w6.heap.size w6 w7) := by show Below _ _ _; rw [← HBe.out]; exact HQ.out.2
 have HX7 : Hid (JnB gX B0 J1 w7) := HX6.out.below HB67.out
 have HY7 : Hid (JnB gY B0 J2 w7) := HY6.out.below HB67.out
 have HB7 : Hid (Below w.heap.size w w7) := HT6.out.b.trans (HB67.out.mono HT6.out.b.size)
 have HR7 := zh HQ.out.1
 clear HSw6 HG1 HG2 HT6 HP6 HQ6 HL6 HBe HQ HB67 HX6 HY6 HFX HFY HV
 go_wp2_with fail
 go_loopw [11, 54] (fun v i wr => ∃ k : Nat, i = .int .i64 k ∧ k ≤ 2 ∧ Hid (GthIn (DF S1 S2 k) v wr) ∧ Hid (Below w7.heap.size w7 wr)) (fun _ i _ => 2 - (intOf i).toNat)
 case atStart => exact ⟨0, rfl, by omega, ⟨none, 0, 0, [], rfl, DigsIn.nilU _ _, fun _ => rfl, AllD.nil, Nat.zero_le _⟩, Below.refl _ _⟩
 case round =>
  obtain ⟨k, rfl, hk2, HG, HBR⟩ := hrel
  by_cases hlt : k < 2
  ·have hd : decide ((k : Int) < 2) = true := by simp; omega
   have p1 : (0 : Int) ≤ (k : Int) := by omega
   have p2 : (k : Int) < (2 : Int) := by omega
   obtain ⟨ss, cs, hcell, hdg⟩ := (HR7.out.below HBR.out).e k hlt
   have hSn : (if k = 0 then S1 else S2).length ≤ 8 := by split; exact HS1n.out; exact HS2n.out
   have HGS := zh (DE (S1 := S1) (S2 := S2) hlt)
   generalize (if k = 0 then S1 else S2) = S at *
   have hgl : Hid ((DF S1 S2 k).length ≤ 16) := by
    show _ ≤ _; unfold DF; have := HS1n.out; have := HS2n.out
    split
    ·exact Nat.zero_le _
    ·split
     ·omega
     ·rw [List.length_append]; omega
   obtain ⟨n, hn⟩ : ∃ n, S.length = n := ⟨_, rfl⟩
   rw [hn] at hcell hdg hSn
   have HD := zh hdg; have HN := zh hn
   clear hdg hn
   go_wp2_with fail
   clear hcell
   obtain ⟨wo, hwo⟩ : ∃ wo, wo = wr := ⟨_, rfl⟩
   subst hwo
   go_loopw [11, 14] (fun v i wx => ∃ j : Nat, i = .int .i64 j ∧ j ≤ n ∧ Hid (GthIn (DF S1 S2 k ++ S.take j) v wx) ∧ Hid (Below wo.heap.size wo wx)) (fun _ i _ => n - (intOf i).toNat)
   case atStart => exact ⟨0, rfl, Nat.zero_le _, by rw [List.take_zero, List.append_nil]; exact HG.out, Below.refl _ _⟩
   case round =>
    clear HG
    obtain ⟨j, rfl, hj, HGJ, HBX⟩ := hrel
    by_cases hjl : j < n
    ·have hd2 : decide ((j : Int) < (n : Int)) = true := by simp; omega
     have p3 : (0 : Int) ≤ (j : Int) := by omega
     have p4 : (j : Int) < (n : Int) := by omega
     have hd0 := HD.out.upD HBX.out HBX.out.size
     obtain ⟨z, b1, o1, hz, hzo, rfl, hb1, hcap1, hr1⟩ := sA hd0 hjl
     have HZR := zh hr1
     have HIZ := zh (jP hzo)
     have HZE : Hid (S.take (j + 1) = S.take j ++ [z]) := by show _ = _; rw [List.take_add_one, hz]; rfl
     obtain ⟨sv, mv, cv, Tv, rfl, hdv, hnv, hav, hlv⟩ := HGJ.out.h
     have hTl : Tv.length ≤ 80000000 := by
      have h1 := hgl.out
      rw [List.length_append, List.length_take] at hlv; omega
     have HADD := zh (FO sv mv cv Tv z wr hdv hnv hzo (by rw [← hdv.len]; exact hTl))
     have HAV := zh hav; have HLV := zh hlv
     clear hd0 hz hzo hr1 hdv hnv hav hlv hTl HGJ
     go_wp2_with (refine wpList_load_mid rfl 43 _ rfl b1 (o1 + j * 32) rfl _ _ HZR.out Tryz.underlying43 rfl HIZ.out ?_)
     refine HADD.out.mono ?_
     rintro e wy ⟨s', m', c', T', rfl, hadd, hdg', hn', hb⟩
     have HG2 : Hid (GthIn (DF S1 S2 k ++ S.take (j + 1)) (.slice s' m' c') wy) := ⟨s', m', c', T', rfl, hdg', hn', by rw [HZE.out, ← List.append_assoc]; exact HAV.out.add hadd, by have h1 := IA hadd; have h2 := HLV.out; rw [HZE.out, ← List.append_assoc, List.length_append (bs := [z]), List.length_singleton]; omega⟩
     have HBY : Hid (Below wo.heap.size wo wy) := HBX.out.trans (hb.mono HBX.out.size)
     clear hadd hdg' hn' hb HADD HAV HLV HZE HBX
     go_wp2_with fail
     go_roundw
     case rel => exact ⟨j + 1, by go_num, by omega, HG2.out, HBY.out⟩
     case measure => simp [intOf]; omega
    ·obtain rfl : j = n := by omega
     have hd2 : decide ((j : Int) < (j : Int)) = false := by simp
     have HG2 := zh (GthIn.cast HGJ.out (show DF S1 S2 k ++ S.take j = DF S1 S2 (k + 1) by rw [List.take_of_length_le (by rw [HN.out]; exact Nat.le_refl _), ← HGS.out]))
     have HBY : Hid (Below w7.heap.size w7 wr) := HBR.out.trans (HBX.out.mono HBR.out.size)
     clear HGJ HBX HBR HD
     go_wp2_with fail
     go_roundw
     case rel => exact ⟨k + 1, by go_num, by omega, HG2.out, HBY.out⟩
     case measure => simp [intOf]; omega
  ·obtain rfl : k = 2 := by omega
   have hd : decide (((2 : Nat) : Int) < 2) = false := by simp
   obtain ⟨sv, mv, cv, Tv, rfl, hdv, hnv, hav, hlv⟩ := HG.out.h
   have HE := zh (HEQ.out Tv hav)
   have HDV := zh hdv
   have hmv : Hid (mv ≤ 16) := by
    have h1 := HS1n.out; have h2 := HS2n.out
    show _ ≤ _
    rw [← hdv.len]
    have h3 : (DF S1 S2 2).length = S1.length + S2.length := by unfold DF; rw [if_neg (by decide), if_neg (by decide), List.length_append]
    omega
   have HBW : Hid (Below w.heap.size w wr) := HB7.out.trans (HBR.out.mono HB7.out.size)
   have HXr : Hid (JnB gX B0 J1 wr) := HX7.out.below HBR.out
   have HYr : Hid (JnB gY B0 J2 wr) := HY7.out.below HBR.out
   have HA := zh (wU wr (HKW.out wr HBW.out).1 (HKW.out wr HBW.out).2)
   clear hdv hnv hav hlv HG HBR HX7 HY7 HEQ HR7 HB7
   go_wp2_with fail
   refine HA.out.mono ?_
   rintro e w8 ⟨rfl, hb⟩
   have HB8 : Hid (Below w.heap.size w w8) := HBW.out.trans (hb.mono HBW.out.size)
   have HX8 : Hid (JnB gX B0 J1 w8) := HXr.out.below hb
   have HY8 : Hid (JnB gY B0 J2 w8) := HYr.out.below hb
   have HD8 : Hid (DigsIn w8 w8.heap.size sv mv cv Tv) := HDV.out.upD hb hb.size
   clear hb HA HBW HXr HYr HDV
   obtain ⟨vx, h1, h2, h3, h4, h5, h6⟩ := HX8.out.h
   have HSX := zh (HSG.out vx _ w8 h2 h3 h4 h5 h6 HB8.out)
   have HRX := zh (aV h1)
   have PY := zh (rT vx)
   rw [HE.out.1] at HSX
   clear h1 h2 h3 h4 h5 h6 HX8
   go_wp2_with (refine bM (by rfl) 25 _ rfl gX 0 rfl _ _ HRX.out Tryz.underlying25 rfl PY.out ?_)
   refine HSX.out.mono ?_
   rintro e w9 ⟨⟨s9, c9, rfl, hs9⟩, hb⟩
   have HB9 : Hid (Below w.heap.size w w9) := HB8.out.trans (hb.mono HB8.out.size)
   have HY9 : Hid (JnB gY B0 J2 w9) := HY8.out.below hb
   have HD9 : Hid (DigsIn w9 w9.heap.size sv mv cv Tv) := HD8.out.upD hb hb.size
   have hTm : Tv.length = mv := HD9.out.len
   have HS9 := zh hs9.d
   rw [hTm] at HS9
   rw [hTm]
   have HSM := zh (tC s9 mv c9 Tv sv mv cv Tv w9 HS9.out HD9.out (by have := hmv.out; omega) rfl)
   clear hb hs9 HB8 HY8 HD8 HSX HRX PY HS9
   go_wp2_with fail
   refine HSM.out.mono ?_
   rintro e w10 ⟨rfl, hb⟩
   have HB10 : Hid (Below w.heap.size w w10) := HB9.out.trans (hb.mono HB9.out.size)
   have HY10 : Hid (JnB gY B0 J2 w10) := HY9.out.below hb
   have HD10 : Hid (DigsIn w10 w10.heap.size sv mv cv Tv) := HD9.out.upD hb hb.size
   clear hb HB9 HY9 HD9 HSM
   obtain ⟨vy, h1, h2, h3, h4, h5, h6⟩ := HY10.out.h
   have HSX := zh (HSG.out vy _ w10 h2 h3 h4 h5 h6 HB10.out)
   have HRX := zh (aV h1)
   have PY := zh (rT vy)
   rw [HE.out.2] at HSX
   clear h1 h2 h3 h4 h5 h6 HY10
   go_wp2_with (refine bM (by rfl) 25 _ rfl gY 0 rfl _ _ HRX.out Tryz.underlying25 rfl PY.out ?_)
   refine HSX.out.mono ?_
   rintro e w11 ⟨⟨s9, c9, rfl, hs9⟩, hb⟩
   have HB11 : Hid (Below w.heap.size w w11) := HB10.out.trans (hb.mono HB10.out.size)
   have HD11 : Hid (DigsIn w11 w11.heap.size sv mv cv Tv) := HD10.out.upD hb hb.size
   have HS9 := zh hs9.d
   rw [hTm] at HS9
   rw [hTm]
   have HSM := zh (tC s9 mv c9 Tv sv mv cv Tv w11 HS9.out HD11.out (by have := hmv.out; omega) rfl)
   clear hb hs9 HB10 HD10 HSX HRX PY HS9
   go_wp2_with fail
   refine HSM.out.mono ?_
   rintro e w12 ⟨rfl, hb⟩
   have HB12 : Hid (Below w.heap.size w w12) := HB11.out.trans (hb.mono HB11.out.size)
   clear hb HSM
   go_wp2_with fail
   go_ret
   exact ⟨rfl, HB12.out⟩
end Go.Proofs.YtcligodahogpkaaGreatDoor
