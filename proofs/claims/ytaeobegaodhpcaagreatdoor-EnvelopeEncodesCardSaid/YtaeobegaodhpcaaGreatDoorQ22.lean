/-
  Envelopes: what a statement looks at: an envelope as it stands in memory, two of them in a row, what made answers.
-/
import Derived.Test.YtaeobegaodhpcaaGreatDoorZip
import Derived.Test.YtaeobegaodhpcaaGreatDoorEnvR
import Derived.Lib.ItoaMem
set_option maxRecDepth 100000
set_option maxHeartbeats 8000000
namespace Go.Proofs.YtaeobegaodhpcaaGreatDoor
open Go.RowKit Go.Proofs.YtaeobegaodhpcaaGreatDoor.One
structure EvX (w:World) (t:ByteArray) (sp:Option Addr) (n cap:Nat) (b:List UInt8) (sq:Option Addr) (m cq:Nat) (l:List Sg):Prop where
 ht:t.size≤300
 hn:n≤100000
 hm:m≤12
 p:BSrc w w.heap.size sp n cap b
 pn:sp=none→cap=0
 s:SgsIn w w.heap.size sq m cq l
 sn:sq=none→cq=0
 lt:∀ y ∈ l,y.n≤1000∧y.m≤1000
section
variable {w w':World} {t:ByteArray} {sp:Option Addr} {n cap:Nat} {b:List UInt8} {sq:Option Addr} {m cq:Nat} {l:List Sg}
theorem EvX.below (h:EvX w t sp n cap b sq m cq l) (hb:Below w.heap.size w w'):EvX w' t sp n cap b sq m cq l :=
 ⟨h.ht,h.hn,h.hm,(h.p.below hb zl).more hb.size,h.pn,h.s.up hb zl,h.sn,h.lt⟩
theorem EvX.tl (h:EvX w t sp n cap b sq m cq l):t.size≤maxLen:=by have:=h.ht;unfold maxLen;omega
end
def MdX (w:World) (e:Ending) (w':World):Prop :=
 (∃ t sp n cap b sq m cq l,e=.returned (.agg (enL t (.slice sp n cap) (.slice sq m cq)).toArray)∧EvX w' t sp n cap b sq m cq l)∧Below w.heap.size w w'
theorem MdO.X {kk:Int} {B0:List UInt8} {w w':World} {e:Ending} (h:MdO kk B0 w e w'):MdX w e w':=by
 obtain⟨t,a1,n1,c1,a2,n2,c2,b',l',he,hev,ht,h1,h2,hlt,hb,_⟩:=h.h;obtain⟨⟨sp,n,cap,e1,hp,hpn⟩,⟨sq,m,cq,e2,hs,hsn⟩⟩:=hev.out;injection e1 with e1 e3 e4;subst e1 e3 e4
 injection e2 with e1 e3 e4;subst e1 e3 e4
 exact⟨⟨t,a1,n1,c1,b',a2,n2,c2,l',he,⟨ht,by omega,by omega,hp,hpn,hs,hsn,fun y hy=>by have:=hlt y hy;omega⟩⟩,hb⟩
theorem UD (t:ByteArray) (p s:Value) (t':ByteArray) (p' s':Value) (w:World):(Instr.buildSlice 30 2 #[(0,.agg (enL t p s).toArray),(1,.agg (enL t' p' s').toArray)]).run Tryz.prog w=.ok (.slice (some ⟨w.heap.size,0,none⟩) 2 2) (w.alloc (.cells (enL t p s++enL t' p' s').toArray 25)):=by kernel_rfl
structure EvR (w:World) (g:Nat):Prop where
 e:∀ k,k<2→∃ t sp n cap b sq m cq l,EvX w t sp n cap b sq m cq l∧w.rangeAt g (k*3) (enL t (.slice sp n cap) (.slice sq m cq))
 g:g<w.heap.size
theorem EvR.below {w w':World} {g:Nat} (h:EvR w g) (hb:Below w.heap.size w w'):EvR w' g :=
 ⟨fun k hk=>by
  obtain⟨t,sp,n,cap,b,sq,m,cq,l,hx,hr⟩:=h.e k hk;exact⟨t,sp,n,cap,b,sq,m,cq,l,hx.below hb,aB hr hb h.g⟩,Nat.lt_of_lt_of_le h.g hb.size⟩
theorem EvR.of {w:World} {g:Nat} {t t':ByteArray} {sp sp' sq sq':Option Addr} {n cap m cq n' cap' m' cq':Nat} {b b':List UInt8} {l l':List Sg}
 (hg:w.heap[g]? = some (.cells (enL t (.slice sp n cap) (.slice sq m cq)++enL t' (.slice sp' n' cap') (.slice sq' m' cq')).toArray 25 (0,0)))
 (h:EvX w t sp n cap b sq m cq l) (h':EvX w t' sp' n' cap' b' sq' m' cq' l'):EvR w g :=
 ⟨fun k hk=>by
  rcases k with _ | _ | k
  ·refine⟨t,sp,n,cap,b,sq,m,cq,l,h,fun j v hv=>?_⟩;have hj:=(List.getElem?_eq_some_iff.1 hv).1;refine aG hg ?_;show (enL t (.slice sp n cap) (.slice sq m cq)++_)[0+j]? = _;rw[Nat.zero_add,List.getElem?_append_left hj];exact hv
  ·refine⟨t',sp',n',cap',b',sq',m',cq',l',h',fun j v hv=>?_⟩;refine aG hg ?_;show (enL t (.slice sp n cap) (.slice sq m cq)++_)[3+j]? = _;rw[List.getElem?_append_right (by show 3≤3+j;omega)];show (enL t' (.slice sp' n' cap') (.slice sq' m' cq'))[3+j-3]? = _;rw[Nat.add_sub_cancel_left];exact hv
  ·omega,(Array.getElem?_eq_some_iff.1 hg).1⟩
theorem ZR (p s:Value) (k y:Int):(Tryz.prog.info? 27).map (·.size)=some (caL p s k y).length:=by kernel_rfl
theorem OwnDg.up {w:World} {b:Nat} {sp:Option Addr} {n cap:Nat} {l:List (List Int)} (h:OwnDg w b (.slice sp n cap) l) (hn:l.length=n):DigsIn w w.heap.size sp n cap l:=h.digs hn
def LtE (t:ByteArray) (n m:Nat) (l:List Sg):Prop:=n≤100000∧t.size≤300∧m≤12∧∀ y ∈ l,y.n≤100∧y.m≤20
def LtR (t:ByteArray) (n m:Nat) (l:List Sg) (w:World) (e:Ending) (w':World):Prop:=∃ b,e=.returned (.bool b)∧(b=true→LtE t n m l)∧Below w.heap.size w w'
theorem GF (t:ByteArray) (p:Value) (sp:Option Addr) (n cap:Nat) (hp:p=.slice sp n cap) (sq:Option Addr) (m cq:Nat) (l:List Sg) (w:World) (hl:SgsIn w w.heap.size sq m cq l) :
 Calls Tryz.prog 5 #[.agg (enA t p (.slice sq m cq))] w (LtR t n m l w):=by
 subst hp;have HL:=zh hl;have HE:=zh (heap_alloc_new w (.cells (enA t (.slice sp n cap) (.slice sq m cq)) 25));clear hl
 go_enter Tryz.func5,Tryz.ntmps5
 go_upto_region 1 with fail
 generalize hw0:World.alloc w _=w0;have HE0:Hid (Ah w0 w.heap.size (enA t (.slice sp n cap) (.slice sq m cq)) 25):=by rw[←hw0];exact HE.out
 have HB0:Hid (Bw w w0):=by rw[←hw0];exact (Below.refl _ _).alloc zl _
 have hs0:w0.heap.size=w.heap.size+1:=by rw[←hw0];simp
 clear hw0 HE;have c0:=IM HE0.out;have c1:=qU HE0.out;have c2:=iW HE0.out;by_cases hn:100000<n
 ·have e1:decide (((n:Nat):Int)>100000)=true:=by simp;omega
  have e2:decide ((100000:Int)<((n:Nat):Int))=true:=e1;have e3:(100000:Int)<((n:Nat):Int):=by omega
  go_wp2_with fail;go_ret;exact⟨false,rfl,fun h=>(by cases h),HB0.out⟩
 ·have e1:decide (((n:Nat):Int)>100000)=false:=by simp;omega
  have e2:decide ((100000:Int)<((n:Nat):Int))=false:=e1;have e3:¬ (100000:Int)<((n:Nat):Int):=by omega
  have e4:((n:Nat):Int)≤100000:=by omega
  by_cases ht:300<t.size
  ·have f1:decide (((t.size:Nat):Int)>300)=true:=by simp;omega
   have f2:decide ((300:Int)<((t.size:Nat):Int))=true:=f1;have f3:(300:Int)<((t.size:Nat):Int):=by omega
   go_wp2_with fail;go_ret;exact⟨false,rfl,fun h=>(by cases h),HB0.out⟩
  ·have f1:decide (((t.size:Nat):Int)>300)=false:=by simp;omega
   have f2:decide ((300:Int)<((t.size:Nat):Int))=false:=f1;have f3:¬ (300:Int)<((t.size:Nat):Int):=by omega
   have f4:((t.size:Nat):Int)≤300:=by omega
   by_cases hm:12<m
   ·have g1:decide (((m:Nat):Int)>12)=true:=by simp;omega
    have g2:decide ((12:Int)<((m:Nat):Int))=true:=g1;have g3:(12:Int)<((m:Nat):Int):=by omega
    go_wp2_with fail;go_ret;exact⟨false,rfl,fun h=>(by cases h),HB0.out⟩
   ·have g1:decide (((m:Nat):Int)>12)=false:=by simp;omega
    have g2:decide ((12:Int)<((m:Nat):Int))=false:=g1;have g3:¬ (12:Int)<((m:Nat):Int):=by omega
    have g4:((m:Nat):Int)≤12:=by omega
    go_wp2_with fail
    go_loopw [3] (fun i wr=>∃ k:Nat,k≤m∧i=.int .i64 k∧Hid (∀ y ∈ l.take k,y.n≤100∧y.m≤20)∧Hid (Below w0.heap.size w0 wr)) (fun i _=>m-(intOf i).toNat)
    case atStart=>exact⟨0,Nat.zero_le _,rfl,fun y hy=>(by simp at hy),Below.refl _ _⟩
    case round =>
     obtain⟨k,hk,rfl,HT,HBR⟩:=hrel;have HBW:Hid (Bw w wr):=HB0.out.trans (HBR.out.mono zo);have HER:Hid (Ah wr w.heap.size (enA t (.slice sp n cap) (.slice sq m cq)) 25):=(HBR.out.block _ zo).trans HE0.out;clear c0 c1 c2;have cS:=iW HER.out;by_cases hlt:k<m
     ·have hd:decide ((k:Int)<(m:Int))=true:=by simp;omega
      have hkl:k<l.length:=by rw[HL.out.len];exact hlt
      obtain⟨bq,off,rfl,hbB,hcap,hr⟩:=HL.out.cells zo;obtain⟨y,hy⟩:∃ y,l[k]? = some y:=⟨l[k],List.getElem?_eq_getElem hkl⟩;have HOY:=zh (HL.out.ok y (List.mem_of_getElem? hy));have hrs:=yD (aB (hr k y hy) HBW.out hbB) HOY.out;have d1:wr.cell? ⟨bq,off+k*20+17+1,none⟩=some (.slice y.sp y.n y.c):=hrs 1 _ rfl;have d2:wr.cell? ⟨bq,off+k*20+17+2,none⟩=some (.slice y.sq y.m y.d):=hrs 2 _ rfl;have d1':wr.cell? ⟨bq,off+k*20+18,none⟩=some (.slice y.sp y.n y.c):=d1;have d2':wr.cell? ⟨bq,off+k*20+19,none⟩=some (.slice y.sq y.m y.d):=d2;have HTK:=zh (show l.take (k+1)=l.take k++[y] by rw[List.take_add_one,hy];rfl);have p1:(0:Int)≤(k:Int):=by omega
      have p2:(k:Int)<(m:Int):=by omega
      have q1:IntKind.i64.wrap (k:Int)=(k:Int):=IntWalk.i64_in _ zo;clear hr hy hrs;by_cases ha:100<y.n
      ·have u1:decide (((y.n:Nat):Int)>100)=true:=by simp;omega
       have u2:decide ((100:Int)<((y.n:Nat):Int))=true:=u1;have u3:(100:Int)<((y.n:Nat):Int):=by omega
       go_wp2_with fail;go_ret;exact⟨false,rfl,fun h=>(by cases h),HBW.out⟩
      ·have u1:decide (((y.n:Nat):Int)>100)=false:=by simp;omega
       have u2:decide ((100:Int)<((y.n:Nat):Int))=false:=u1;have u3:¬ (100:Int)<((y.n:Nat):Int):=by omega
       have u4:((y.n:Nat):Int)≤100:=by omega
       by_cases hb:20<y.m
       ·have v1:decide (((y.m:Nat):Int)>20)=true:=by simp;omega
        have v2:decide ((20:Int)<((y.m:Nat):Int))=true:=v1;have v3:(20:Int)<((y.m:Nat):Int):=by omega
        go_wp2_with fail;go_ret;exact⟨false,rfl,fun h=>(by cases h),HBW.out⟩
       ·have v1:decide (((y.m:Nat):Int)>20)=false:=by simp;omega
        have v2:decide ((20:Int)<((y.m:Nat):Int))=false:=v1;have v3:¬ (20:Int)<((y.m:Nat):Int):=by omega
        have v4:((y.m:Nat):Int)≤20:=by omega
        go_wp2_with fail;go_roundw
        case rel =>
         refine⟨k+1,by omega,by go_num,?_,HBR.out⟩;rw[HTK.out];intro z hz;rcases List.mem_append.1 hz with hz | hz
         ·exact HT.out z hz
         ·rw[List.mem_singleton.1 hz];omega
        case measure=>simp[intOf];omega
     ·obtain rfl:k=m:=by omega
      have hd:decide ((k:Int)<(k:Int))=false:=by simp
      have HTK:Hid (l.take k=l):=by show _=_;rw[List.take_of_length_le];rw[HL.out.len];omega
      rw[HTK.out] at HT;go_wp2_with fail;go_ret;exact⟨true,rfl,fun _=>⟨by omega,by omega,by omega,HT.out⟩,HBW.out⟩
theorem xY (sp1 sp2:Option Addr) (n c1 c2:Nat) (l:List (List Int)) (w:World) (h1:HvsIn w w.heap.size sp1 n c1 l) (h2:HvsIn w w.heap.size sp2 n c2 l) (hn:n≤1000) :
 Calls Tryz.prog 56 #[.slice sp1 n c1,.slice sp2 n c2] w fun e w'=>e=.returned (.bool true)∧Below w.heap.size w w':=by
 have H1:=zh h1;have H2:=zh h2;clear h1 h2
 go_enter Tryz.func56,Tryz.ntmps56
 go_wp2_with fail
 go_loopw [5] (fun i wr=>∃ k:Nat,k≤n∧i=.int .i64 k∧Hid (Below w.heap.size w wr)) (fun i _=>n-(intOf i).toNat)
 case atStart=>exact⟨0,Nat.zero_le _,rfl,Below.refl _ _⟩
 case round =>
  obtain⟨k,hk,rfl,HB⟩:=hrel;by_cases hlt:k<n
  ·have hd:decide ((k:Int)<(n:Int))=true:=by simp;omega
   have p1:(0:Int)≤(k:Int):=by omega
   have p2:(k:Int)<(n:Int):=by omega
   obtain⟨b1,o1,rfl,hb1,_,hr1⟩:=H1.out.cells zo;obtain⟨b2,o2,rfl,hb2,_,hr2⟩:=H2.out.cells zo;have HR1:=zh (hr1 k hlt);have HR2:=zh (hr2 k hlt);have HOK:=zh (H1.out.at16 hlt);clear hr1 hr2;generalize l.getD k []=y at *;have HIY:=zh (VQ HOK.out);go_wp2_with fail;refine wp_region_held_drew (S:=fun w'=>Below w.heap.size w w') (by kernel_rfl) HB.out.drew (fun hHeld=>?_);refine zv 0 rfl ?_;refine zv 1 rfl ?_;refine zv 2 rfl ?_;refine' zk 3 rfl (v:=_) (yieldsIf_load_mid (by rfl) _ _ rfl _ _ rfl _ _ ?hS3n4 Tryz.underlying42 rfl HIY.out) ?rest3n4
   case hS3n4 =>
    intro w' hSw;exact aB HR1.out hSw hb1
   try simp only[Act.put,zu]
   refine zv 4 rfl ?_;refine zv 5 rfl ?_;refine zv 6 rfl ?_;refine' zk 7 rfl (v:=_) (yieldsIf_load_mid (by rfl) _ _ rfl _ _ rfl _ _ ?hS7n8 Tryz.underlying42 rfl HIY.out) ?rest7n8
   case hS7n8 =>
    intro w' hSw;exact aB HR2.out hSw hb2
   try simp only[Act.put,zu]
   refine zx 8 rfl (v:=?_) ?_ ?_;rotate_left
   ·intro w' hSw;refine QR (x:=.tmp 20) (y:=.tmp 24) HOK.out ?_ ?_ ?_ <;> rfl
   refine zd ?_ _;go_wp2_with fail;have HB3:Hid (Below w.heap.size w wr.drew):=HB.out.drew;go_roundw
   case rel=>exact⟨k+1,by omega,by go_num,HB3⟩
   case measure=>simp[intOf];omega
  ·obtain rfl:k=n:=by omega
   have hd:decide ((k:Int)<(k:Int))=false:=by simp
   go_wp2_with fail;go_ret;exact⟨rfl,HB.out⟩
structure SsBox (w:World) (l:Int) (c p c' p':Value) (w0:World):Prop where
 a:w0.heap[w.heap.size]? = some (.cells (siA l c p) 48 (0,0))
 d:w0.heap[w.heap.size+1]? = some (.cells (siA l c' p') 48 (0,0))
 b:Below w.heap.size w w0
 s:w0.heap.size=w.heap.size+2
theorem SsBox.new (w:World) (l:Int) (c p c' p':Value):SsBox w l c p c' p' ((w.alloc (.cells (siA l c p) 48)).alloc (.cells (siA l c' p') 48)) :=
 ⟨(heap_alloc_old _ _ (by simp)).trans (heap_alloc_new w _),by have h:=heap_alloc_new (w.alloc (.cells (siA l c p) 48)) (.cells (siA l c' p') 48);rw[World.size_alloc] at h;exact h,((Below.refl _ _).alloc zl _).alloc (by simp) _,by simp⟩
theorem KH (l:Int) (sp1 sp2 sp3 sp4:Option Addr) (n m c1 c2 c3 c4:Nat) (cl pl:List (List Int)) (w:World) (hc:HvsIn w w.heap.size sp1 n c1 cl) (hp:HvsIn w w.heap.size sp2 m c2 pl) (hc':HvsIn w w.heap.size sp3 n c3 cl) (hp':HvsIn w w.heap.size sp4 m c4 pl) (hn:n≤1000) (hm:m≤1000) :
 Calls Tryz.prog 28 #[.agg (siA l (.slice sp1 n c1) (.slice sp2 m c2)),.agg (siA l (.slice sp3 n c3) (.slice sp4 m c4))] w fun e w'=>e=.returned (.bool true)∧Below w.heap.size w w':=by
 have HC:=zh hc;have HP:=zh hp;have HC':=zh hc';have HP':=zh hp';clear hc hp hc' hp';have HT:=zh (SsBox.new w l (.slice sp1 n c1) (.slice sp2 m c2) (.slice sp3 n c3) (.slice sp4 m c4));have q1:(l == l)=true:=by simp
 go_enter Tryz.func28,Tryz.ntmps28
 go_upto_region 1 with (fail)
 generalize hw0:World.alloc (World.alloc w _) _=w0;have HT0:Hid (SsBox w l (.slice sp1 n c1) (.slice sp2 m c2) (.slice sp3 n c3) (.slice sp4 m c4) w0):=by rw[←hw0];exact HT.out
 clear hw0 HT;have hs0:w.heap.size+2≤w0.heap.size:=Nat.le_of_eq HT0.out.s.symm;have a1:=rI HT0.out.a;have a2:=sP HT0.out.a;have b1:=rI HT0.out.d;have b2:=sP HT0.out.d;go_wp2_with fail;clear a1 a2 b1 b2;refine (xY sp1 sp3 n c1 c3 cl w0 ((HC.out.below HT0.out.b zl).more zo) ((HC'.out.below HT0.out.b zl).more zo) hn).mono ?_;rintro e w1 ⟨rfl,hb⟩;have hs1:=hb.size;have HB1:Hid (Bw w w1):=HT0.out.b.trans (hb.mono zo);have a3:=sK ((hb.block _ zo).trans HT0.out.a);have b3:=sK ((hb.block _ zo).trans HT0.out.d);clear hb HT0;go_wp2_with fail;clear a3 b3;refine (xY sp2 sp4 m c2 c4 pl w1 ((HP.out.below HB1.out zl).more zo) ((HP'.out.below HB1.out zl).more zo) hm).mono ?_;rintro e w2 ⟨rfl,hb⟩;have HB2:Hid (Bw w w2):=HB1.out.trans (hb.mono zo);clear hb;go_wp2_with fail;go_ret;exact⟨rfl,HB2.out⟩
end Go.Proofs.YtaeobegaodhpcaaGreatDoor
namespace Go.Proofs.YtaeobegaodhpcaaGreatDoor
open Go.RowKit
def QL (n:Nat):UInt8:=if n<10 then 48+n.toUInt8 else 87+n.toUInt8
def sW (l:List Int):List UInt8:=l.flatMap fun x=>[QL (x.toNat / 16),QL (x.toNat % 16)]
theorem gH (l:List Int):(sW l).length=2*l.length:=by
 induction l with
 | nil=>rfl
 | cons a t ih=>simp[sW,List.flatMap_cons] at ih ⊢;omega
theorem zM (l:List Int) (k:Nat) (h:k<l.length):sW (l.take (k+1))=sW (l.take k)++[QL ((l.getD k 0).toNat / 16),QL ((l.getD k 0).toNat % 16)]:=by
 rw[kY l k h];unfold sW;rw[List.flatMap_append];simp
theorem wG {w:World} {base e:Nat} {v:Value} {l:List UInt8} (h:w.ownsRow base e 1 v l.length (Lib.byteCells l)) :
 (v=.slice none 0 0∧l=[])∨∃ g cap,v=.slice (some ⟨g,0,none⟩) l.length cap∧base≤g∧g<w.heap.size∧∀ j (hj:j<l.length),w.cell? ⟨g,j,none⟩=some (.int .u8 (l[j].toNat:Int)):=by
 obtain⟨_,⟨rfl,h0⟩ | ⟨g,cap,cur,rfl,hb,hg,hle,_,hsz,htk⟩⟩:=h
 ·exact .inl ⟨rfl,List.eq_nil_of_length_eq_zero h0⟩
 ·refine .inr ⟨g,cap,rfl,hb,(Array.getElem?_eq_some_iff.1 hg).1,fun j hj=>?_⟩;rw[cell_of_row w g j cur e _ hg];have h1:(cur.toList.take (l.length*1))[j]? = some (.int .u8 (l[j].toNat:Int)):=by rw[htk];simp[Lib.byteCells,List.getElem?_eq_getElem hj]
  rw[List.getElem?_take,if_pos zo] at h1;simpa using h1
theorem kH {w:World} {base e:Nat} {v:Value} {l:List UInt8} (h:w.ownsRow base e 1 v l.length (Lib.byteCells l)) :
 (convert 22 9 v).run Tryz.prog w=.ok (.string ⟨l.toArray⟩) w:=by
 rcases wG h with ⟨rfl,rfl⟩ | ⟨g,cap,rfl,_,_,hc⟩
 ·rw[run_convert_bytes_string w 22 9 5 none 0 0 Tryz.underlying22 Tryz.underlying5 Tryz.underlying9];kernel_rfl
 ·exact run_convert_bytes_back w 22 9 5 _ cap l Tryz.underlying22 Tryz.underlying5 Tryz.underlying9 (fun j hj=>by rw[Addr.add_mid,Nat.zero_add];exact hc j hj)
theorem lF (n:Nat) (h:n<16) (w:World):(Instr.index 9 (.string ⟨#[48,49,50,51,52,53,54,55,56,57,97,98,99,100,101,102]⟩) (.int .u8 (n:Int))).run Tryz.prog w=.ok (.int .u8 ((QL n).toNat:Int)) w:=by
 rcases (by omega:n=0∨n=1∨n=2∨n=3∨n=4∨n=5∨n=6∨n=7∨n=8∨n=9∨n=10∨n=11∨n=12∨n=13∨n=14∨n=15) with rfl | rfl | rfl | rfl | rfl | rfl | rfl | rfl | rfl | rfl | rfl | rfl | rfl | rfl | rfl | rfl <;> kernel_rfl
theorem uJ (w:World) (L:List Value) (t:TypeId):∀ j u,L[j]? = some u→((w.alloc (.cells L.toArray t)).drew).cell? ((⟨w.heap.size,0,none⟩:Addr).add j)=some u:=by
 intro j u hj;have h:((w.alloc (.cells L.toArray t)).drew).heap[w.heap.size]? = some (.cells L.toArray t (0,0)):=heap_alloc_new w _;rw[Addr.add_mid,Nat.zero_add,cell_of_row _ w.heap.size j _ t (0,0) h];simpa using hj
theorem jX {P:Program} {w:World} {ops:Array Oper} {o:Oper} {a:Act} {K:Act→World→Prop} {Q:Exit→Act→World→Prop} {E:Prop} (hgd:o.guard=none) (s x:Operand) (t:TypeId)
 (ho:o.op=.call { callee:=.builtin .append,args:=#[s,x],argTypes:=#[t,t] })
 (base:Nat) (e:TypeId) (i:TypeInfo) (z:Value) (size bytes:Nat) (ht:P.underlying t=some (.slice e)) (hi:P.info? e=some i) (hz:i.zero=some z)
 (hsize:i.size=size) (hby:i.bytes=bytes) (hzs:z.cells.size=size) (hsz:0<size)
 (v:Value) (n:Nat) (xs:List Value) (hs:a.eval s=v) (hown:w.ownsRow base e size v n xs)
 (ad:Addr) (m c:Nat) (news:List Value) (hx:a.eval x=.slice (some ad) m c) (hl:news.length=m*size) (hnews:∀ j u,news[j]? = some u→w.cell? (ad.add j)=some u) (h1:∀ u ∈ news,u.oneCell'=true)
 (h63:n+m≤maxLen) (hbytes:(n+m)*bytes≤140737488355328) (hbase:base≤w.heap.size)
 (h:∀ v' w',w'.ownsRow base e size v' (n+m) (xs++news)→w.grownBy w' v.ownBlock→(v'=.slice none 0 0↔v=.slice none 0 0∧m=0)→K (a.put o.dst v') w') :
 if Region.wanted o (yielded ops a.tmps)=true then Oper.wp P o a w K Q else E:=by
 have hw:Region.wanted o (yielded ops a.tmps)=true:=by simp[Region.wanted,hgd]
 rw[if_pos hw];exact wp_append_own w s x t ho base e i z size bytes ht hi hz hsize hby hzs hsz v n xs hs hown ad m c news hx hl hnews h1 h63 hbytes hbase h
theorem WW:∀ c:Fin 256,bits .and .u8 (c.val:Int) 15=(c.val:Int) % 16:=by decide +kernel
theorem TH (x:Int) (h0:0≤x) (h:x<256):bits .and .u8 x 15=x % 16:=by
 have:=WW ⟨x.toNat,by omega⟩;simp only[] at this;rw[show ((x.toNat:Nat):Int)=x by omega] at this;exact this
theorem VU (sp:Option Addr) (n cap:Nat) (b:List Int) (w:World) (hs:Src w w.heap.size sp n cap b) (hbd:n≤1073741824) :
 Calls Tryz.prog 74 #[.slice sp n cap] w fun e w'=>e=.returned (.string ⟨(sW b).toArray⟩)∧Below w.heap.size w w':=by
 have HS:=zh hs;clear hs;obtain⟨i0,hi0,hz0,hz1,hz2⟩:=info_parts Tryz.info5a;have HI0:=zh hi0;have HZ0:=zh hz0;have HZ1:=zh hz1;have HZ2:=zh hz2;clear hi0 hz0 hz1 hz2
 go_enter Tryz.func74,Tryz.ntmps74
 go_wp2_with (refine wpList_make_own _ rfl (.const (.int .i64 0)) (.tmp 8) 22 rfl w.heap.size 5 i0 (.int .u8 0) 1 Tryz.underlying22 HI0.out HZ0.out HZ1.out .i64 .i64 _ (2*n) rfl rfl zo (by rw[HZ2.out];omega) (by unfold maxLen;omega) zl ?_;intro w1 hown1 hg1;have HO1:=zh hown1;clear hown1)
 have hb1:Below w.heap.size w w1:=(Below.refl _ _).grown hg1 zl (fun k hk=>by cases hk);have hs1:=hb1.size
 go_loopw [3,12] (fun v i wr=>∃ (k N:Nat) (sp':Option Addr) (cap':Nat),k≤n∧i=.int .i64 k∧N=2*k∧v=.slice sp' N cap'∧Hid (wr.ownsRow w.heap.size 5 1 (.slice sp' N cap') N (Lib.byteCells (sW (b.take k))))∧Hid (Below w.heap.size w wr)) (fun _ i _=>n-(intOf i).toNat)
 case atStart=>exact⟨0,0,_,_,by omega,rfl,rfl,rfl,HO1.out,hb1⟩
 case round =>
  clear HO1 hb1 hs1 hg1;obtain⟨k,N,sp',cap',hk,rfl,hN,rfl,hown,hbe⟩:=hrel;have hbs:=hbe.out.size;have hNb:N≤2147483648:=by omega
  have HNE:=zh hN;clear hN;by_cases hlt:k<n
  ·obtain⟨bb,off,rfl,hbb,hcap,hc⟩:=HS.out.cells zo;have ck:=(hbe.out.cell (p:=⟨bb,off+k,none⟩) hbb).trans (hc k hlt);have hd:decide ((k:Int)<(n:Int))=true:=by simp;omega
   have hx:=HS.out.byt.at_ k;have HE:=zh (zM b k (by rw[HS.out.len];exact hlt));have q1:(0:Int)≤(k:Int):=by omega
   have q2:(k:Int)<(n:Int):=by omega
   have hx1:=lF ((b.getD k 0).toNat / 16) zo;have hx2:=lF ((b.getD k 0).toNat % 16) zo;rw[show (((b.getD k 0).toNat / 16:Nat):Int)=(b.getD k 0) / 16 by omega] at hx1;rw[show (((b.getD k 0).toNat % 16:Nat):Int)=(b.getD k 0) % 16 by omega] at hx2;have hand:=TH (b.getD k 0) hx.1 hx.2;generalize b.getD k 0=x at *;obtain⟨c1,hc1⟩:∃ c,QL (x.toNat / 16)=c:=⟨_,rfl⟩;obtain⟨c2,hc2⟩:∃ c,QL (x.toNat % 16)=c:=⟨_,rfl⟩;rw[hc1] at hx1 HE;rw[hc2] at hx2 HE;clear hc1 hc2 hc;have hl:(sW (b.take k)).length=N:=by rw[gH,List.length_take,HS.out.len,HNE.out];omega
   generalize sW (b.take k)=T at *;have HL:=zh hl;clear hl;go_wp2_with fail
   go_region_held3 (fun _=>True) (trivial) ((refine jX rfl (.tmp 16) (.tmp 23) 22 (by rfl) w.heap.size 5 i0 (.int .u8 0) 1 1 Tryz.underlying22 HI0.out HZ0.out HZ1.out HZ2.out rfl (by decide) _ _ _ (by rfl) (by exact (hown.out.alloc _).drew) ⟨wr.heap.size,0,none⟩ 2 2 (Lib.byteCells [c1,c2]) (by rfl) (by rfl) (by exact uJ _ _ _) (Lib.byteCells_one _) (by unfold maxLen;omega) zo (by simp;omega) ?_;intro v' w1 hown1 hg1 _;have HO1:=zh hown1;clear hown1))
   all_goals
    go_wp2
    have hbe1:=((hbe.out.alloc hbs (.cells (Lib.byteCells [c1,c2]).toArray 5)).drew).grown hg1 (by simp;omega) (dQ hown.out);obtain⟨sp5,cap5,rfl⟩:=oN HO1.out;go_roundw
    case rel =>
     refine⟨k+1,N+2,sp5,cap5,by omega,by go_num,by have:=HNE.out;omega,rfl,?_,hbe1⟩;have:=HO1.out;show World.ownsRow _ _ _ _ _ _ _;rw[HE.out,Lib.byteCells_append];exact this
    case measure=>simp[intOf];omega
  ·obtain rfl:k=n:=by omega
   have hd:decide ((k:Int)<(k:Int))=false:=by simp
   have hall:b.take k=b:=List.take_of_length_le (by rw[HS.out.len];exact Nat.le_refl _);rw[hall] at hown;have hlen:(sW b).length=N:=by rw[gH,HS.out.len,HNE.out]
   have ho:=hown.out;rw[←hlen] at ho;have hcv:=kH ho;rw[hlen] at hcv;have HBE:=zh hbe.out;clear ho hlen hown hall;obtain⟨T,hT⟩:∃ T,sW b=T:=⟨_,rfl⟩;rw[hT] at hcv;have HT:=zh hT;clear hT
   go_wp2
   go_ret;exact⟨by rw[HT.out];rfl,HBE.out⟩
theorem FY (sp:Option Addr) (n cap:Nat) (b:List Int) (w:World) (hs:Src w w.heap.size sp n cap b) (hbd:n≤1073741824) :
 Calls Tryz.prog 47 #[.slice sp n cap] w fun e w'=>e=.returned (.string ⟨(sW b).toArray⟩)∧Below w.heap.size w w':=by
 have HS:=zh hs;clear hs;obtain⟨i0,hi0,hz0,hz1,hz2⟩:=info_parts Tryz.info5a;have HI0:=zh hi0;have HZ0:=zh hz0;have HZ1:=zh hz1;have HZ2:=zh hz2;clear hi0 hz0 hz1 hz2
 go_enter Tryz.func47,Tryz.ntmps47
 go_wp2_with fail
 go_loopw [4,5] (fun v i wr=>∃ (k N:Nat) (sp':Option Addr) (cap':Nat),k≤n∧i=.int .i64 k∧N=2*k∧v=.slice sp' N cap'∧Hid (wr.ownsRow w.heap.size 5 1 (.slice sp' N cap') N (Lib.byteCells (sW (b.take k))))∧Hid (Below w.heap.size w wr)) (fun _ i _=>n-(intOf i).toNat)
 case atStart=>exact⟨0,0,none,0,by omega,rfl,rfl,rfl,World.ownsRow_nil _ _ _ _,Below.refl _ _⟩
 case round =>
  obtain⟨k,N,sp',cap',hk,rfl,hN,rfl,hown,hbe⟩:=hrel;have hbs:=hbe.out.size;have hNb:N≤2147483648:=by omega
  have HNE:=zh hN;clear hN;by_cases hlt:k<n
  ·obtain⟨bb,off,rfl,hbb,hcap,hc⟩:=HS.out.cells zo;have hd:decide ((k:Int)<(n:Int))=true:=by simp;omega
   have hx:=HS.out.byt.at_ k;have HE:=zh (zM b k (by rw[HS.out.len];exact hlt));have q1:(0:Int)≤(k:Int):=by omega
   have q2:(k:Int)<(n:Int):=by omega
   have ck:=(hbe.out.cell (p:=⟨bb,off+k,none⟩) hbb).trans (hc k hlt);have hx1:=lF ((b.getD k 0).toNat / 16) zo;have hx2:=lF ((b.getD k 0).toNat % 16) zo;rw[show (((b.getD k 0).toNat / 16:Nat):Int)=(b.getD k 0) / 16 by omega] at hx1;rw[show (((b.getD k 0).toNat % 16:Nat):Int)=(b.getD k 0) % 16 by omega] at hx2;have hand:=TH (b.getD k 0) hx.1 hx.2;generalize b.getD k 0=x at *;obtain⟨c1,hc1⟩:∃ c,QL (x.toNat / 16)=c:=⟨_,rfl⟩;obtain⟨c2,hc2⟩:∃ c,QL (x.toNat % 16)=c:=⟨_,rfl⟩;rw[hc1] at hx1 HE;rw[hc2] at hx2 HE;clear hc1 hc2 hc;have hl:(sW (b.take k)).length=N:=by rw[gH,List.length_take,HS.out.len,HNE.out];omega
   generalize sW (b.take k)=T at *;have HL:=zh hl;clear hl;have NX:Hid (∀ w',Below w.heap.size wr w'→w'.cell? ⟨bb,off+k,none⟩=some (.int .u8 x)):=fun w' h=>(h.cell (p:=⟨bb,off+k,none⟩) hbb).trans ck;go_wp2_with fail
   go_region_held3 (fun w'=>w'.cell? ⟨bb,off+k,none⟩=some (.int .u8 x)) (first | exact NX.out _ (Below.refl _ _) | exact NX.out _ (Below.refl _ _).drew | exact NX.out _ ((Below.refl _ _).alloc hbs _) | exact NX.out _ ((Below.refl _ _).alloc hbs _).drew | exact NX.out _ (by assumption)) ((refine jX rfl (.tmp 12) (.tmp 27) 22 (by rfl) w.heap.size 5 i0 (.int .u8 0) 1 1 Tryz.underlying22 HI0.out HZ0.out HZ1.out HZ2.out rfl (by decide) _ _ _ (by rfl) (by exact (hown.out.alloc _).drew) ⟨wr.heap.size,0,none⟩ 2 2 (Lib.byteCells [c1,c2]) (by rfl) (by rfl) (by exact uJ _ _ _) (Lib.byteCells_one _) (by unfold maxLen;omega) zo (by simp;omega) ?_;intro v' w1 hown1 hg1 _;have HO1:=zh hown1;clear hown1;have hbA:Below w.heap.size wr w1:=(((Below.refl _ _).alloc hbs _).drew).grown hg1 (by simp;omega) (dQ hown.out)))
   all_goals
    go_wp2
    have hbe1:=hbe.out.trans hbA;obtain⟨sp5,cap5,rfl⟩:=oN HO1.out;go_roundw
    case rel =>
     refine⟨k+1,N+2,sp5,cap5,by omega,by go_num,by have:=HNE.out;omega,rfl,?_,hbe1⟩;have:=HO1.out;show World.ownsRow _ _ _ _ _ _ _;rw[HE.out,Lib.byteCells_append];exact this
    case measure=>simp[intOf];omega
  ·obtain rfl:k=n:=by omega
   have hd:decide ((k:Int)<(k:Int))=false:=by simp
   have hall:b.take k=b:=List.take_of_length_le (by rw[HS.out.len];exact Nat.le_refl _);rw[hall] at hown;have hlen:(sW b).length=N:=by rw[gH,HS.out.len,HNE.out]
   have ho:=hown.out;rw[←hlen] at ho;have hcv:=kH ho;rw[hlen] at hcv;have HBE:=zh hbe.out;clear ho hlen hown hall;obtain⟨T,hT⟩:∃ T,sW b=T:=⟨_,rfl⟩;rw[hT] at hcv;have HT:=zh hT;clear hT
   go_wp2
   go_ret;exact⟨by rw[HT.out];rfl,HBE.out⟩
theorem lX (a:List Int) (w:World) (ha:a.length=16) (hA:Byt a) :
 Calls Tryz.prog 40 #[.agg (a.map (Value.int .u8)).toArray] w fun e w'=>e=.returned (.string ⟨(sW a).toArray⟩)∧Below w.heap.size w w':=by
 have hr:=mC w 42 .u8 a;have hb:=aA w (.cells (a.map (Value.int .u8)).toArray 42);have hsz:=aF w (.cells (a.map (Value.int .u8)).toArray 42);have xD:Hid (Src (w.alloc (.cells (a.map (Value.int .u8)).toArray 42)) (w.heap.size+1) (some ⟨w.heap.size,0,none⟩) 16 16 a):=by
  have:=bN (cap:=16) (B:=w.heap.size+1) hr hA zo zo;rw[ha] at this;exact this
 rw[←hsz] at xD;have HB:=zh hb;have HSZ:=zh hsz;clear hr hb hsz ha hA
 go_enter Tryz.func40,Tryz.ntmps40
 go_wp2_with fail;refine (VU _ 16 16 a _ xD.out zo).mono ?_;rintro e w1 ⟨rfl,hb1⟩;have HBB:=zh (HB.out.trans (hb1.mono (by rw[HSZ.out];omega)));clear hb1 xD
 go_wp2
 go_ret;exact⟨rfl,HBB.out⟩
theorem eY (a:List Int) (w:World) (ha:a.length=16) (hA:Byt a) :
 Calls Tryz.prog 21 #[.agg (a.map (Value.int .u8)).toArray] w fun e w'=>e=.returned (.string ⟨(sW a).toArray⟩)∧Below w.heap.size w w':=by
 have HLA:=zh ha;have HA:=zh hA;clear ha hA;have HR:=zh (mC w 42 .u8 a);have HB:=zh (aA w (.cells (a.map (Value.int .u8)).toArray 42));have HSZ:=zh (aF w (.cells (a.map (Value.int .u8)).toArray 42))
 go_enter Tryz.func21,Tryz.ntmps21
 go_wp2_with fail;generalize hw0:World.alloc w _=w0;rw[hw0] at HR HB HSZ;clear hw0;have hs0:=HSZ.out
 go_loopg [3,4] 16 (fun g v i wx=>∃ (j N:Nat) (sp:Option Addr) (cap:Nat),j+g=16∧Hid (N=j)∧i=.int .i64 j∧v=.slice sp N cap∧Hid (wx.ownsRow w0.heap.size 5 1 (.slice sp N cap) N ((a.take j).map (Value.int .u8)))∧Hid (Below w0.heap.size w0 wx))
 case atStart=>exact⟨0,0,none,0,rfl,rfl,rfl,rfl,World.ownsRow_nil _ _ _ _,Below.refl _ _⟩
 case round =>
  obtain⟨j,N,sp4,cap4,hjg,hN,rfl,rfl,hown,hbe⟩:=hrel;have hbs:=hbe.out.size;have hNb:N≤16:=by have:=hN.out;omega
  by_cases hj:j<16
  ·have hc1:decide ((j:Int)<16)=true:=by simp;omega
   have ca:=(HR.out.below hbe.out zo).get j (by rw[HLA.out];exact hj);have q1:(0:Int)≤(j:Int):=by omega
   have q2:(j:Int)<16:=by omega
   obtain⟨x,hx⟩:∃ x,a.getD j 0=x:=⟨_,rfl⟩;rw[hx] at ca;have HX:=zh hx;clear hx;have HLL:Hid (N=(a.take j).length):=by show _=_;rw[List.length_take,HLA.out,hN.out];omega
   go_wp2_with (at_builtin;refine cR rfl (.tmp 9) (.tmp 13) 22 5 rfl Tryz.underlying22 Tryz.info5a w0.heap.size _ (a.take j) N rfl HLL.out (hown.out.alloc _) wr.heap.size x rfl (by simp) zo (by simp;omega) ?_;intro sp5 cap5 w5 hown5 hg5)
   have hbe5:=(hbe.out.alloc hbs (.cells #[.int .u8 x] 5)).grown hg5 (by simp;omega) (dQ hown.out)
   go_roundg (16-(j+1))
   case measure=>omega
   case rel =>
    refine⟨j+1,N+1,sp5,cap5,by omega,by show _=_;have:=hN.out;omega,by go_num,rfl,?_,hbe5⟩;have:=hown5.out;show World.ownsRow _ _ _ _ _ _ _;rw[kY _ _ (by rw[HLA.out];exact hj),HX.out];exact this
  ·obtain rfl:j=16:=by omega
   have hN2:=hN.out;rw[List.take_of_length_le (by rw[HLA.out];exact Nat.le_refl _)] at hown;have hc1:decide ((16:Int)<16)=false:=by decide
   rw[show ((16:Nat):Int)=16 from rfl];subst hN2;have ho:=hown.out;rw[←HLA.out] at ho;obtain⟨sp7,cap7,e7,hsrc,hnil⟩:=eK ho HA.out;injection e7 with e1 e2 e3
   subst e1 e3;rw[HLA.out] at hsrc;have xD:=zh hsrc;have HWR:Hid (Bw w wr):=HB.out.trans (hbe.out.mono zo);have hadd:7+(sW a).length≤9223372036854775807:=by rw[gH,HLA.out];omega
   clear ho hsrc hnil hown hbe hN;go_wp2_with fail;refine (FY sp4 16 cap4 a wr xD.out zo).mono ?_;rintro e w3 ⟨rfl,hb3⟩;have HB3:=zh (HWR.out.trans (hb3.mono zo));clear hb3
   go_wp2
   go_ret;exact⟨rfl,HB3.out⟩
end Go.Proofs.YtaeobegaodhpcaaGreatDoor
namespace Go.Proofs.YtaeobegaodhpcaaGreatDoor
open Go
def isD (c:UInt8):Bool:=decide (48≤c.toNat) && decide (c.toNat≤57)
def IJ (a:Nat) (l:List UInt8):Nat:=l.foldl (fun a c=>10*a+(c.toNat-48)) a
def pG (l:List UInt8):Nat:=IJ 0 l
def lz (l:List UInt8):Bool:=decide (l.head? = some 48) && decide (1<l.length)
def pnk (l:List UInt8):Bool:=!decide (l=[]) && !lz l && l.all isD && decide (pG l≤1099511627776)
def pnv (l:List UInt8):Int:=if pnk l=true then (pG l:Int) else 0
theorem xO (l:List UInt8) (c:UInt8):pG (l++[c])=10*pG l+(c.toNat-48):=by unfold pG IJ;rw[List.foldl_append];rfl
theorem JD (l:List UInt8):∀ a,a*10 ^ l.length≤IJ a l:=by
 induction l with
 | nil=>intro a;simp[IJ]
 | cons c r ih =>
   intro a;have h:=ih (10*a+(c.toNat-48));show a*10 ^ (r.length+1)≤IJ (10*a+(c.toNat-48)) r;refine Nat.le_trans ?_ h;rw[Nat.pow_succ,Nat.mul_comm (10 ^ r.length) 10,←Nat.mul_assoc];exact Nat.mul_le_mul_right _ zo
theorem JC (l m:List UInt8):pG l≤pG (l++m):=by
 unfold pG;have:IJ 0 (l++m)=IJ (IJ 0 l) m:=by unfold IJ;rw[List.foldl_append]
 rw[this];exact Nat.le_trans (Nat.le_mul_of_pos_right _ (Nat.pow_pos zo)) (JD m _)
theorem UA (l:List UInt8) (h:l.all isD=true):pG l<10 ^ l.length:=by
 have key:∀ (m:List UInt8),m.all isD=true→∀ a,IJ a m<(a+1)*10 ^ m.length:=by
  intro m
  induction m with
  | nil=>intro _ a;simp[IJ]
  | cons c r ih =>
    intro hm a;rw[List.all_cons,Bool.and_eq_true] at hm;have hc:=hm.1;unfold isD at hc;simp only[Bool.and_eq_true,decide_eq_true_eq] at hc;have h:=ih hm.2 (10*a+(c.toNat-48));refine Nat.lt_of_lt_of_le h ?_;show _≤(a+1)*10 ^ (r.length+1);rw[Nat.pow_succ,Nat.mul_comm (10 ^ r.length) 10,←Nat.mul_assoc];exact Nat.mul_le_mul_right _ zo
 have h0:=key l h 0;rw[Nat.zero_add,Nat.one_mul] at h0;exact h0
theorem OQ {l:List UInt8} (h:l.all isD=true) (h0:l≠[]) (hz:l.head? ≠ some 48):10 ^ (l.length-1)≤pG l:=by
 cases l with
 | nil=>exact absurd rfl h0
 | cons c r =>
   have hc:c≠48:=fun e=>hz (by rw[e];rfl);have hd:isD c=true:=by rw[List.all_cons,Bool.and_eq_true] at h;exact h.1
   unfold isD at hd;simp only[Bool.and_eq_true,decide_eq_true_eq] at hd;have hc2:c.toNat≠48:=fun e=>hc (UInt8.toNat_inj.1 e);have h1:=JD r (10*0+(c.toNat-48));show 10 ^ (r.length+1-1)≤IJ (10*0+(c.toNat-48)) r;refine Nat.le_trans ?_ h1;rw[Nat.add_sub_cancel];exact Nat.le_mul_of_pos_left _ zo
theorem RD (u:Nat) (h:¬ u<10):Lib.decDigits u=Lib.decDigits (u / 10)++[UInt8.ofNat (48+u % 10)]:=by rw[Lib.decDigits,dif_neg h]
theorem yQ (k:Nat) (h:k<256):(UInt8.ofNat k).toNat=k:=by simp;omega
end Go.Proofs.YtaeobegaodhpcaaGreatDoor
namespace Go.Proofs.YtaeobegaodhpcaaGreatDoor
open Go.RowKit
theorem RC (c:UInt8):dV (c.toNat:Int)=isD c:=by
 unfold dV isD;congr 1 <;> (rw[decide_eq_decide];omega)
theorem lG (s:ByteArray) (i:Nat) (h:i<s.size):s.data.toList[i]? = some s[i]:=by
 rw[List.getElem?_eq_getElem (by simpa using h)];rfl
theorem kZ (s:ByteArray) (k:Nat) (h:k<s.size):s.data.toList.take (k+1)=s.data.toList.take k++[s[k]]:=by
 rw[List.take_succ_eq_append_getElem (by simpa using h)];rfl
theorem nA {l:List UInt8} (h:l=[]∨lz l=true∨l.all isD=false∨1099511627776<pG l):pnk l=false∧pnv l=0:=by
 have h1:pnk l=false:=by
  unfold pnk;rcases h with h | h | h | h
  ·rw[decide_eq_true h];rfl
  ·rw[h];simp
  ·rw[h];simp
  ·rw[decide_eq_false (p:=pG l≤1099511627776) zo];simp
 exact⟨h1,by unfold pnv;rw[h1];rfl⟩
theorem KQ {l:List UInt8} (h0:l≠[]) (hz:lz l=false) (hd:l.all isD=true) (hm:pG l≤1099511627776):pnk l=true∧pnv l=(pG l:Int):=by
 have h1:pnk l=true:=by unfold pnk;rw[decide_eq_false h0,hz,hd,decide_eq_true hm];rfl
 exact⟨h1,by unfold pnv;rw[if_pos h1]⟩
theorem sG {l:List UInt8} {k:Nat} {c:UInt8} (h:l[k]? = some c) (hc:isD c=false):l.all isD=false:=by
 rw[List.all_eq_false];exact⟨c,List.mem_of_getElem? h,by rw[hc];simp⟩
theorem xN (l:List UInt8) (k:Nat):pG (l.take k)≤pG l:=by
 have:=JC (l.take k) (l.drop k)
 rwa [List.take_append_drop] at this
theorem kT (s:ByteArray) (w:World) (hmax:s.size≤9223372036854775807) :
 Calls Tryz.prog 85 #[.string s] w fun e w'=>e=.returned (.tuple #[.int .i64 (pnv s.data.toList),.bool (pnk s.data.toList)])∧w=w':=by
 by_cases he:s.size=0
 ·have hl:s.data.toList=[]:=List.eq_nil_of_length_eq_zero (by rw[←Lib.size_eq];exact he);have HN:=zh (nA (l:=s.data.toList) (.inl hl));have hl2:s.toList=[]:=by rw[Lib.toList_data];exact hl
  clear hl he
  go_enter Tryz.func85,Tryz.ntmps85
  go_wp2_with fail;go_ret2;exact⟨by rw[HN.out.1,HN.out.2];rfl,rfl⟩
 have hne:s.data.toList≠[]:=fun h=>he (by rw[Lib.size_eq,h];rfl);have hl:(s.toList == [])=false:=by rw[Lib.toList_data,beq_eq_false_iff_ne];exact hne
 have hl2:¬ s.toList=[]:=by simpa using hl
 have h0:0<s.size:=by omega
 have p0:(0:Int)<(s.size:Int):=by omega
 have hh:=lG s 0 h0;have hhd:s.data.toList.head? = some s[0]:=by rw[←hh,List.head?_eq_getElem?]
 have hcs:(((s[0].toNat:Int) == 48)=true∧(s.toList == [48])=false∧lz s.data.toList=true)∨(((s[0].toNat:Int) == 48)=true∧(s.toList == [48])=true∧lz s.data.toList=false)∨(((s[0].toNat:Int) == 48)=false∧lz s.data.toList=false):=by
  by_cases h:s[0]=48
  ·have e1:((s[0].toNat:Int) == 48)=true:=by rw[h];rfl
   by_cases h2:s.toList=[48]
   ·refine .inr (.inl ⟨e1,by rw[beq_iff_eq];exact h2,?_⟩);rw[Lib.toList_data] at h2;rw[h2];rfl
   ·refine .inl ⟨e1,by rw[beq_eq_false_iff_ne];exact h2,?_⟩;rw[Lib.toList_data] at h2;unfold lz;rw[hhd,h,decide_eq_true rfl,Bool.true_and,decide_eq_true_eq];rcases hd:s.data.toList with _ | ⟨a,_ | ⟨b,r⟩⟩
    ·exact absurd hd hne
    ·rw[hd] at hhd h2;simp at hhd;exact absurd (by rw[hhd,h]) h2
    ·simp
  ·refine .inr (.inr ⟨?_,?_⟩)
   ·rw[beq_eq_false_iff_ne];intro e;apply h;apply UInt8.toNat_inj.1;show s[0].toNat=48;omega
   ·unfold lz;rw[hhd,decide_eq_false (fun e=>h (by simpa using e))];rfl
 have HH:=zh hne;clear hh hhd hne;rcases hcs with ⟨t1,t2,hz⟩ | hcs
 ·have HN:=zh (nA (l:=s.data.toList) (.inr (.inl hz)));have t3:(!(s.toList == [48]))=true:=by rw[t2];rfl
  clear hz
  go_enter Tryz.func85,Tryz.ntmps85
  go_wp2_with fail;go_ret2;exact⟨by rw[HN.out.1,HN.out.2];rfl,rfl⟩
 ·have hz:lz s.data.toList=false:=by rcases hcs with ⟨_,_,h⟩ | ⟨_,h⟩ <;> exact h
  have HZ:=zh hz;have hcs:(((s[0].toNat:Int) == 48)=true∧(!(s.toList == [48]))=false)∨((s[0].toNat:Int) == 48)=false:=by
   rcases hcs with ⟨h1,h2,_⟩ | ⟨h1,_⟩
   ·exact .inl ⟨h1,by rw[h2];rfl⟩
   ·exact .inr h1
  have HPN:Hid (∀ h:s.data.toList.all isD=false∨1099511627776<pG s.data.toList,pnk s.data.toList=false∧pnv s.data.toList=0):=fun h=>nA (.inr (.inr h));have HPY:Hid (∀ (h1:s.data.toList.all isD=true) (h2:pG s.data.toList≤1099511627776),pnk s.data.toList=true∧pnv s.data.toList=(pG s.data.toList:Int)):=fun h1 h2=>KQ HH.out HZ.out h1 h2;have HLS:=zh (Lib.size_eq s);clear hz;rcases hcs with ⟨t1,t3⟩ | t1
  all_goals
   go_enter Tryz.func85,Tryz.ntmps85
   go_wp2_with fail
   go_loopw [4,19] (fun v i wr=>∃ (k V:Nat),k≤s.size∧i=.int .i64 k∧v=.int .i64 V∧V≤1099511627776∧Hid (V=pG (s.data.toList.take k))∧Hid ((s.data.toList.take k).all isD=true)∧Hid (wr=w)) (fun _ i _=>s.size-(intOf i).toNat)
   case atStart=>exact⟨0,0,Nat.zero_le _,rfl,rfl,by omega,rfl,rfl,rfl⟩
   case round =>
    obtain⟨k,V,hk,rfl,rfl,hV,HV,HA,hw⟩:=hrel;obtain rfl:=hw.out;clear hw;by_cases hlt:k<s.size
    ·have hd:decide ((k:Int)<(s.size:Int))=true:=by simp;omega
     have p1:(0:Int)≤(k:Int):=by omega
     have p2:(k:Int)<(s.size:Int):=by omega
     have HG:=zh (lG s k hlt);have HC:=zh (fun w=>rZ (s[k].toNat:Int) w);rw[RC] at HC
     cases hc:isD s[k]
     ·have HN:=zh (HPN.out (.inl (sG HG.out hc)));rw[hc] at HC;clear hc HPN HPY;go_wp2_with fail;refine (HC.out _).mono ?_;rintro e w' ⟨rfl,rfl⟩;go_wp2_with fail;go_ret2;exact⟨by rw[HN.out.1,HN.out.2];rfl,rfl⟩
     ·rw[hc] at HC;have hc2:=hc;unfold isD at hc2;simp only[Bool.and_eq_true,decide_eq_true_eq] at hc2;have hva:pG (s.data.toList.take (k+1))=10*V+(s[k].toNat-48):=by rw[kZ s k hlt,xO,←HV.out]
      have hal:(s.data.toList.take (k+1)).all isD=true:=by rw[kZ s k hlt,List.all_append,HA.out,List.all_cons,hc];rfl
      have hle:=xN s.data.toList (k+1);obtain⟨m,hm⟩:∃ m,10*V+(s[k].toNat-48)=m:=⟨_,rfl⟩;have q1:IntKind.i64.wrap (10*(V:Int))=10*(V:Int):=IntWalk.i64_in _ zo;have q2:((s[k].toNat:Int)-48) % 256=(s[k].toNat:Int)-48:=by omega
      have q3:10*(V:Int)+((s[k].toNat:Int)-48)=(m:Int):=by omega
      have q4:IntKind.i64.wrap (m:Int)=(m:Int):=IntWalk.i64_in _ zo;rw[hm] at hva;by_cases hb:1099511627776<m
      ·have hbd:decide ((m:Int)>1099511627776)=true:=by simp;omega
       have HN:=zh (HPN.out (.inr zo));clear hc hc2 hva hal hle hm HPN HPY;go_wp2_with fail;refine (HC.out _).mono ?_;rintro e w' ⟨rfl,rfl⟩;go_wp2_with fail;go_ret2;exact⟨by rw[HN.out.1,HN.out.2];rfl,rfl⟩
      ·have hbd:decide ((m:Int)>1099511627776)=false:=by simp;omega
       have HVA:=zh hva.symm;have HAL:=zh hal;clear hc hc2 hva hal hle hm HPN HPY;go_wp2_with fail;refine (HC.out _).mono ?_;rintro e w' ⟨rfl,rfl⟩;go_wp2_with fail;go_roundw
       case rel=>exact⟨k+1,m,by omega,by go_num,rfl,by omega,HVA,HAL,by first | rfl | exact trivial⟩
       case measure=>simp[intOf];omega
    ·obtain rfl:k=s.size:=by omega
     have hd:decide ((s.size:Int)<(s.size:Int))=false:=by simp
     have htk:s.data.toList.take s.size=s.data.toList:=List.take_of_length_le (by rw[←HLS.out];exact Nat.le_refl _);have ha:=HA.out;have hv:=HV.out;rw[htk] at ha hv;have HN:=zh (HPY.out ha (by rw[←hv];exact hV));have HV2:=zh hv;clear htk ha hv HPN HPY;go_wp2_with fail;go_ret2;exact⟨by rw[HN.out.1,HN.out.2,←HV2.out];rfl,rfl⟩
end Go.Proofs.YtaeobegaodhpcaaGreatDoor
