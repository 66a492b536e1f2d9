/-
  Envelopes: the walk of the reference's Same on two envelopes that say the same (conditions: at most 1000 signatures, each of at most 1000 halves).
-/
import Derived.Test.YtaeobegaodhpcaaGreatDoorZip
import Derived.Test.YtaeobegaodhpcaaGreatDoorQ28
set_option maxRecDepth 100000
set_option maxHeartbeats 8000000
namespace Go.Proofs.YtaeobegaodhpcaaGreatDoor
open Go.RowKit Go.Proofs.YtaeobegaodhpcaaGreatDoor.One
theorem KY {t:TypeId} {a:Act} {o:Oper} {w:World} {x y:Operand} {V:Array Value} (hg:Tryz.prog.eqGuardType Tryz.prog.depth t = false) (hq:(Op.equalIn 10000 t (.agg V) (.agg V)).run Tryz.prog w = .ok true w) (ho:o.op = .binOp .neq t x y t) (hx:a.eval x = .agg V) (hy:a.eval y = .agg V):(execOp a.eval o).run Tryz.prog w = .ok (Next.value (.bool false)) w:=by
 have heg:=run_eqGuard_agg (P:=Tryz.prog) w .neq t x y V V hg;unfold execOp;simp only [ho,hx,hy,Sem.run_bind,heg,Result.andThen_ok,binOp,Op.equal,Op.maxDepth,hq];rfl
theorem KF {h:Int} {r:List Int} (hr:H16 r):(Tryz.prog.info? 44).map (·.size) = some (pkL h r).length:=dI hr
theorem DZ (t:ByteArray) (sp1:Option Addr) (n1 c1:Nat) (b:List UInt8) (sq1:Option Addr) (m d1:Nat) (l1:List Sg) (sp2:Option Addr) (n2 c2:Nat) (sq2:Option Addr) (m2 d2:Nat) (l2:List Sg) (w:World)
 (hp1:BSrc w w.heap.size sp1 n1 c1 b) (hp2:BSrc w w.heap.size sp2 n2 c2 b) (hl1:SgsIn w w.heap.size sq1 m d1 l1) (hl2:SgsIn w w.heap.size sq2 m2 d2 l2) (he:l1.map pg = l2.map pg) (hlt:∀ y ∈ l1.map pg,y.l.length ≤ 1000 ∧ y.q.length ≤ 1000) (hm:m ≤ 1000) :
 Calls Tryz.prog 11 #[.agg (enA t (.slice sp1 n1 c1) (.slice sq1 m d1)),.agg (enA t (.slice sp2 n2 c2) (.slice sq2 m2 d2))] w fun e w'=>e = .returned (.bool true) ∧ Below w.heap.size w w':=by
 obtain rfl:m = m2:=by rw [← hl1.len,← hl2.len];have:=congrArg List.length he;rwa [List.length_map,List.length_map] at this
 have HP1:=zh hp1;have HP2:=zh hp2;have HL1:=zh hl1;have HL2:=zh hl2;have HEQ:=zh he;have FP:=zh hlt;have HE:=zh (heap_alloc_new w (.cells (enA t (.slice sp1 n1 c1) (.slice sq1 m d1)) 25));clear hp1 hp2 hl1 hl2 he hlt
 go_enter Tryz.func11,Tryz.ntmps11
 go_upto_region 1 with fail
 generalize hwz:World.alloc w _ = wz;generalize hw0:World.alloc wz _ = w0;have HEz:Hid (wz.heap[w.heap.size]? = some (.cells (enA t (.slice sp1 n1 c1) (.slice sq1 m d1)) 25 (0,0))):=by rw [← hwz];exact HE.out
 have HBz:Hid (Below w.heap.size w wz):=by rw [← hwz];exact aA _ _
 have hsz:wz.heap.size = w.heap.size + 1:=by rw [← hwz];simp
 have HF0:Hid (w0.heap[w.heap.size + 1]? = some (.cells (enA t (.slice sp2 n2 c2) (.slice sq2 m d2)) 25 (0,0))):=by rw [← hw0,← hsz];exact heap_alloc_new _ _
 have BF:Hid (Below wz.heap.size wz w0):=by rw [← hw0];exact aA _ _
 have hs0:w0.heap.size = w.heap.size + 2:=by rw [← hw0,World.size_alloc,hsz]
 have HE0:Hid (w0.heap[w.heap.size]? = some (.cells (enA t (.slice sp1 n1 c1) (.slice sq1 m d1)) 25 (0,0))):=(BF.out.block _ (by omega)).trans HEz.out;have HB0:Hid (Below w.heap.size w w0):=HBz.out.trans (BF.out.mono (by omega))
 try rw [hsz]
 clear hwz hw0 HE HEz HBz BF hsz;have q1:=fD (c2:=c1) ((HP1.out.below HB0.out (Nat.le_refl _)));have q2:=fD (c2:=c2) ((HP2.out.below HB0.out (Nat.le_refl _)));have k1:=LH HE0.out;have k2:=qC HE0.out;have k3:=iY HE0.out;have k4:=LH HF0.out;have k5:=qC HF0.out;have k6:=iY HF0.out
 go_upto_region 4 with fail
 clear q1 q2 k1 k2 k3 k4 k5 k6;obtain ⟨BW,hBW⟩:∃ BW,BW = w0.heap.size:=⟨_,rfl⟩;have HBW:=zh hBW;obtain ⟨g1,hg1⟩:∃ g1,g1 = w.heap.size:=⟨_,rfl⟩;have HLW:Hid (w.heap.size ≤ BW ∧ w.heap.size < BW ∧ w.heap.size + 1 < BW):=⟨by omega,by omega,by omega⟩;clear hBW hs0
 go_loopw [5] (fun i wr=>∃ k:Nat,i = .int .i64 k ∧ k ≤ m ∧ Hid (Below BW w0 wr)) (fun i _=>m - (intOf i).toNat)
 case atStart=>exact ⟨0,rfl,by omega,Below.refl _ _⟩
 case round =>
  obtain ⟨k,rfl,hk2,HB⟩:=hrel;have HE1:Hid (wr.heap[w.heap.size]? = some (.cells (enA t (.slice sp1 n1 c1) (.slice sq1 m d1)) 25 (0,0))):=(HB.out.block _ HLW.out.2.1).trans HE0.out;have HE2:Hid (wr.heap[w.heap.size + 1]? = some (.cells (enA t (.slice sp2 n2 c2) (.slice sq2 m d2)) 25 (0,0))):=(HB.out.block _ HLW.out.2.2).trans HF0.out;have c1':=iY HE1.out;by_cases hlt:k < m
  ·have hd:decide ((k:Int) < (m:Int)) = true:=by simp;omega
   have hbs:=HB.out.size;have HBB:Hid (Below w.heap.size w wr):=HB0.out.trans (HB.out.mono HLW.out.1);obtain ⟨x,bb1,of1,hx,hok,hsd,e1,hlb1,hcp1,hrx⟩:=BQ (HL1.out.below HBB.out (Nat.le_refl _)) hlt;obtain ⟨y,bb2,of2,hy,hoky,hsdy,e2,hlb2,hcp2,hry⟩:=BQ (HL2.out.below HBB.out (Nat.le_refl _)) hlt;subst e1 e2;have hxy:pg x = pg y:=by
    have h1:=CF hx;have h2:=CF hy;rw [HEQ.out,h2] at h1;injection h1 with h1;exact h1.symm
   have h1000:=FP.out (pg x) (List.mem_map.2 ⟨x,List.mem_of_getElem? hx,rfl⟩);have HRA0:=zh (nO hrx);have HSA0:=zh (wO hrx hok);have HRB0:=zh (nO hry);have HSB0:=zh (wO hry hoky);obtain ⟨h,r,a,xs,xn,xc,xl,ys,yn,yc,yl⟩:=x;obtain ⟨h',r',a',xs',xn',xc',xl',ys',yn',yc',yl'⟩:=y;have e1:h = h':=congrArg Pg.h hxy;have e2:r = r':=congrArg Pg.r hxy;have e3:a = a':=congrArg Pg.a hxy;have e4:xl = xl':=congrArg Pg.l hxy;have e5:yl = yl':=congrArg Pg.q hxy;subst e1 e2 e3 e4 e5;have hn1:xn = xn':=hsd.c.len.symm.trans hsdy.c.len;have hn2:yn = yn':=hsd.p.len.symm.trans hsdy.p.len;subst hn1 hn2;have HXN:Hid (xn ≤ 1000 ∧ yn ≤ 1000):=⟨by rw [← show xl.length = xn from hsd.c.len];exact h1000.1,by rw [← show yl.length = yn from hsd.p.len];exact h1000.2⟩;have HRA:Hid (wr.rangeAt bb1 (of1 + k * 20) (pkL h r)):=HRA0.out;have HRB:Hid (wr.rangeAt bb2 (of2 + k * 20) (pkL h r)):=HRB0.out;have HSA:Hid (wr.rangeAt bb1 (of1 + k * 20 + 17) (siL a (.slice xs xn xc) (.slice ys yn yc))):=HSA0.out;have HSB:Hid (wr.rangeAt bb2 (of2 + k * 20 + 17) (siL a (.slice xs' xn xc') (.slice ys' yn yc'))):=HSB0.out;have gU:Hid (H16 r):=hok;have HIP:=zh (KF (h:=h) gU.out);have HSD:Hid (SgD wr w.heap.size ⟨h,r,a,xs,xn,xc,xl,ys,yn,yc,yl⟩):=hsd;have HSE:Hid (SgD wr w.heap.size ⟨h,r,a,xs',xn,xc',xl,ys',yn,yc',yl⟩):=hsdy;have HLT:Hid (w.heap.size < BW ∧ w.heap.size + 1 < BW ∧ bb1 < BW ∧ bb2 < BW):=⟨HLW.out.2.1,HLW.out.2.2,by have:=HLW.out.1;omega,by have:=HLW.out.1;omega⟩;have HCS:Hid (∀ w',Below BW wr w' → Calls Tryz.prog 28 #[.agg (siL a (.slice xs xn xc) (.slice ys yn yc)).toArray,.agg (siL a (.slice xs' xn xc') (.slice ys' yn yc')).toArray] w' fun e w''=>e = .returned (.bool true) ∧ Below w'.heap.size w' w''):=fun w' hb=>by
    have hbm:=hb.mono HLW.out.1;have hsz:w.heap.size ≤ w'.heap.size:=by have h1:=hb.size;have h2:=HB0.out.size;have h3:=HBW.out;omega
    exact IN a xs ys xs' ys' xn yn xc yc xc' yc' xl yl w' ((HSD.out.c.below hbm (Nat.le_refl _)).more hsz) ((HSD.out.p.below hbm (Nat.le_refl _)).more hsz) ((HSE.out.c.below hbm (Nat.le_refl _)).more hsz) ((HSE.out.p.below hbm (Nat.le_refl _)).more hsz) HXN.out.1 HXN.out.2
   have QT:Hid (Blks BW wr wr []):=Blks.start (Below.refl _ _) (by have h2:=HBW.out;omega);have p1:(0:Int) ≤ (k:Int):=by omega
   have p2:(k:Int) < (m:Int):=by omega
   clear hx hy hok hoky hsd hsdy hrx hry hxy h1000 HRA0 HRB0 HSA0 HSB0 hcp1 hcp2 hlb1 hlb2 hbs
   go_upto_region 6 with fail
   clear c1';refine wp_region_held_drew (S:=fun w'=>Below BW wr w') (by kernel_rfl) QT.out.b.drew (fun hHeld=>?_);refine zv 0 rfl ?_;refine zx 1 rfl (v:=?_) ?_ ?_;rotate_left
   ·intro w' hSw;have c2:=iY ((hSw.block _ HLT.out.1).trans HE1.out);go_simp;try with_reducible rfl
   refine zv 2 rfl ?_;refine zv 3 rfl ?_;refine zv 4 rfl ?_;refine' zk 5 rfl (v:=_) (yieldsIf_load_mid (by rfl) _ _ rfl _ _ rfl _ _ ?hS5n6 Tryz.underlying44 rfl HIP.out) ?rest5n6
   case hS5n6 =>
    intro w' hSw;exact aB HRA.out hSw HLT.out.2.2.1
   try simp only [Act.put,zu]
   refine zv 6 rfl ?_;refine zx 7 rfl (v:=?_) ?_ ?_;rotate_left
   ·intro w' hSw;have c2:=iY ((hSw.block _ HLT.out.2.1).trans HE2.out);go_simp;try with_reducible rfl
   refine zv 8 rfl ?_;refine zv 9 rfl ?_;refine zv 10 rfl ?_;refine' zk 11 rfl (v:=_) (yieldsIf_load_mid (by rfl) _ _ rfl _ _ rfl _ _ ?hS11n12 Tryz.underlying44 rfl HIP.out) ?rest11n12
   case hS11n12 =>
    intro w' hSw;exact aB HRB.out hSw HLT.out.2.2.2
   try simp only [Act.put,zu]
   refine zx 12 rfl (v:=?_) ?_ ?_;rotate_left
   ·intro w' hSw;refine KY (x:=.tmp 41) (y:=.tmp 47) (by kernel_rfl) (eqPk h r gU.out w') ?_ ?_ ?_ <;> rfl
   refine zv 13 rfl ?_;refine zv 14 rfl ?_;refine zx 15 rfl (v:=?_) ?_ ?_;rotate_left
   ·intro w' hSw;have c2:=iY ((hSw.block _ HLT.out.1).trans HE1.out);go_simp;try with_reducible rfl
   refine zv 16 rfl ?_;refine zv 17 rfl ?_;refine zv 18 rfl ?_;refine' zk 19 rfl (v:=_) (yieldsIf_load_mid (by rfl) _ _ rfl _ _ rfl _ _ ?hS19n20 Tryz.underlying48 rfl (oW a (.slice xs xn xc) (.slice ys yn yc))) ?rest19n20
   case hS19n20 =>
    intro w' hSw;exact aB HSA.out hSw HLT.out.2.2.1
   try simp only [Act.put,zu]
   refine zv 20 rfl ?_;refine zx 21 rfl (v:=?_) ?_ ?_;rotate_left
   ·intro w' hSw;have c2:=iY ((hSw.block _ HLT.out.2.1).trans HE2.out);go_simp;try with_reducible rfl
   refine zv 22 rfl ?_;refine zv 23 rfl ?_;refine zv 24 rfl ?_;refine' zk 25 rfl (v:=_) (yieldsIf_load_mid (by rfl) _ _ rfl _ _ rfl _ _ ?hS25n26 Tryz.underlying48 rfl (oW a (.slice xs' xn xc') (.slice ys' yn yc'))) ?rest25n26
   case hS25n26 =>
    intro w' hSw;exact aB HSB.out hSw HLT.out.2.2.2
   try simp only [Act.put,zu]
   refine zr 26 rfl (fun K hK=>?_);go_simp
   with_reducible refine (HCS.out _ (QT.out.drew).b).mono ?_
   rintro e v1 ⟨rfl,hb⟩;have cD:=zh (QT.out.call ((Below.refl _ _).drew.trans hb));clear hb;go_wp2_with fail;refine hK.out _ _ cD.out.b fun _=>?_;clear hK K;refine zv 27 rfl ?_;refine zv 28 rfl ?_;refine zd ?_ _;go_wp2_with fail;go_roundw
   case rel=>exact ⟨k + 1,by go_num,by omega,HB.out.trans (show Below BW wr v1 from cD.out.b)⟩
   case measure=>simp [intOf];omega
  ·obtain rfl:k = m:=by omega
   have hd:decide ((k:Int) < (k:Int)) = false:=by simp
   have HBf:Hid (Below w.heap.size w wr):=HB0.out.trans (HB.out.mono HLW.out.1);go_wp2_with fail;go_ret;exact ⟨rfl,HBf.out⟩
theorem LY {w:World} {base:Nat} {sp:Option Addr} {cap:Nat} {l:List UInt8} (h:w.ownsRow base 5 1 (.slice sp l.length cap) l.length (Lib.byteCells l)):BSrc w w.heap.size sp l.length cap l:=by
 obtain ⟨_,⟨e,h0⟩ | ⟨g,c,cur,e,_,hg,hle,_,hsz,htk⟩⟩:=h
 ·exact ⟨rfl,fun hn=>by omega⟩
 ·injection e with e1 e2 e3
  subst e1;subst e3;refine ⟨rfl,fun _=>⟨g,0,rfl,(Array.getElem?_eq_some_iff.1 hg).1,hle,fun j hj=>?_⟩⟩;rw [cell_of_row w g (0 + j) cur _ _ hg,Nat.zero_add];have h4:(cur.toList.take (l.length * 1))[j]? = some (.int .u8 (l[j].toNat:Int)):=by rw [htk];simp [Lib.byteCells,hj]
  rw [List.getElem?_take,if_pos (by omega)] at h4;simpa using h4
theorem LZ {w w':World} {sp:Option Addr} {n cap:Nat} {l:List UInt8} (h:BSrc w w.heap.size sp n cap l) (hb:Below w.heap.size w w'):BSrc w' w'.heap.size sp n cap l:=(h.below hb (Nat.le_refl _)).more hb.size
theorem TJ {w:World} {B:Nat} {sp:Option Addr} {n cap:Nat} {l:List Sg} (h:SgsIn w B sp n cap l):∀ p ∈ l.map pg,H16 p.r ∧ (∀ x ∈ p.l,H16 x) ∧ ∀ x ∈ p.q,H16 x:=fun p hp=>by
 obtain ⟨x,hx,rfl⟩:=List.mem_map.1 hp;exact ⟨h.ok x hx,(h.dat x hx).c.ok,(h.dat x hx).p.ok⟩
theorem QJ (w:World):(Instr.build 44 #[]).run Tryz.prog w = .ok (.agg (pkA 0 bH)) w:=by kernel_rfl
end Go.Proofs.YtaeobegaodhpcaaGreatDoor
