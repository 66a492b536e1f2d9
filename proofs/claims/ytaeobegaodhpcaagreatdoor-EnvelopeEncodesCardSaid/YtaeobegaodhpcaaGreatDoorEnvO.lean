/-
  Envelopes: an append of many signatures, a slice cut from a place on; the walk of the reference's insert.
-/
import Derived.Test.YtaeobegaodhpcaaGreatDoorZip
import Derived.Test.YtaeobegaodhpcaaGreatDoorQ21
set_option maxRecDepth 100000
set_option maxHeartbeats 8000000
namespace Go.Proofs.YtaeobegaodhpcaaGreatDoor
open Go.RowKit Go.Proofs.YtaeobegaodhpcaaGreatDoor.One
theorem DC (k cap:Nat) (sp:Option Addr):(slG sp k cap=none)=(sp=none):=by
 unfold slG;split
 ·rfl
 ·simp
theorem lN {ops:Array Oper} {S:World→Prop} {op:Oper} {a:Act} (hw:Region.wanted op (yielded ops a.tmps)=true) (x lo:Operand) (ho:op.op=.slice 23 x (some lo) none none)
 (sp:Option Addr) (n cap k:Nat) (hx:a.eval x=.slice sp n cap) (hlo:a.eval lo=.int .i64 k) (hk:k≤n):YieldsIf Tryz.prog ops S op (.slice (slG sp k cap) (n-k) (cap-k)) a :=
 .inl ⟨hw,fun w _=>by
  unfold execOp;simp only[ho,Option.map_some,Option.map_none,hx,hlo];have:=KD w sp n cap k hk;simp[Instr.sliceAt,run_underlying Tryz.underlying23,this]⟩
theorem SgsIn.cutG {w:World} {B:Nat} {sp:Option Addr} {n cap:Nat} {l:List Sg} (h:SgsIn w B sp n cap l) {k:Nat} (hk:k≤n):SgsIn w B (slG sp k cap) (n-k) (cap-k) (l.drop k) :=
 ⟨by rw[List.length_drop,h.len],fun x hx=>h.ok x (List.mem_of_mem_drop hx),fun x hx=>h.dat x (List.mem_of_mem_drop hx),fun hn=>by
  obtain⟨b,off,rfl,hlt,hc,hr⟩:=h.cells zo;refine⟨b,off+k*20,?_,hlt,by omega,fun i x hi=>?_⟩
  ·unfold slG;rw[if_neg zo];simp only[Option.map_some,Addr.add_mid]
  ·rw[List.getElem?_drop] at hi;have:=hr (k+i) x hi;rw[show off+(k+i)*20=off+k*20+i*20 by omega] at this;exact this⟩
theorem SgsIn.one {w:World} {b:Nat} {x:Sg} (h:GB w b x) (hx:OkG x) (hd:SgD w w.heap.size x):SgsIn w w.heap.size (some ⟨b,0,none⟩) 1 1 [x] :=
 ⟨rfl,fun y hy=>(by rw[List.mem_singleton.1 hy];exact hx),fun y hy=>(by rw[List.mem_singleton.1 hy];exact hd),fun _=>⟨b,0,rfl,(Array.getElem?_eq_some_iff.1 h).1,Nat.le_refl _,fun i y hi=>by
  rcases i with _ | i
  ·have e:x=y:=by simpa using hi
   subst e;exact h.all
  ·simp at hi⟩⟩
theorem aZ {P:Program} {o:Oper} {a:Act} {w:World} {K:Act→World→Prop} {Q:Exit→Act→World→Prop} (t:TypeId) (k:Nat) (parts:List (Nat × Operand)) (ho:o.op=.buildSlice t k parts.toArray)
 (vs:List (Nat × Value)) (hv:(parts.map fun (i,x)=>(i,a.eval x))=vs) (v:Value) (w':World) (hrun:(Instr.buildSlice t k vs.toArray).run P w=.ok v w') (h:K (a.put o.dst v) w'):o.wp P a w K Q:=by
 unfold Oper.wp execOp;simp only[ho,Sem.run_bind,List.map_toArray,hv,hrun,Result.andThen_ok];exact h
theorem uA {α:Type} (f:α→List Value) (sz:Nat) (h0:0<sz):∀ (l:List α),(∀ x ∈ l,(f x).length=sz)→∀ (j:Nat) (v:Value),(l.flatMap f)[j]? = some v→∃ x,l[j / sz]? = some x∧(f x)[j % sz]? = some v
 | [],_,j,v,h=>by simp at h
 | y :: t, hl, j, v, h => by
   have hy:=hl y (by simp);rw[List.flatMap_cons] at h;by_cases hj:j<sz
   ·rw[List.getElem?_append_left zo] at h;rw[Nat.div_eq_of_lt hj,Nat.mod_eq_of_lt hj];exact⟨y,rfl,h⟩
   ·rw[List.getElem?_append_right zo,hy] at h;obtain⟨x,h1,h2⟩:=uA f sz h0 t (fun x hx=>hl x (by simp[hx])) (j-sz) v h;have e:j=(j-sz)+sz:=by omega
    rw[e,Nat.add_div_right _ h0,Nat.add_mod_right];exact⟨x,by simpa using h1,h2⟩
theorem lI {α:Type} (f:α→List Value) (sz:Nat):∀ (l:List α),(∀ x ∈ l,(f x).length=sz)→(l.flatMap f).length=l.length*sz
 | [],_=>by simp
 | y :: t, hl => by
   rw[List.flatMap_cons,List.length_append,hl y (by simp),lI f sz t (fun x hx=>hl x (by simp[hx])),List.length_cons,Nat.succ_mul,Nat.add_comm]
theorem fH {w:World} {o:Oper} {a:Act} {K:Act→World→Prop} {Q:Exit→Act→World→Prop} (s x:Operand)
 (ho:o.op=.call { callee:=.builtin .append,args:=#[s,x],argTypes:=#[23,23] }) (base:Nat) (v:Value) (l:List Sg) (n:Nat) (hn:n=l.length) (hs:a.eval s=v) (hown:OwnG w base v l)
 (sp2:Option Addr) (m cap2 B:Nat) (l2:List Sg) (hx:a.eval x=.slice sp2 m cap2) (hsrc:SgsIn w B sp2 m cap2 l2) (hnil:sp2=none→cap2=0) (hlen:n+m≤1000000) (hbase:base≤w.heap.size)
 (h:∀ sp cap w',Hid (OwnG w' base (.slice sp (n+m) cap) (l++l2))→Hid (Below base w w')→Hid (w.grownBy w' v.ownBlock)→K (a.put o.dst (.slice sp (n+m) cap)) w'):o.wp Tryz.prog a w K Q:=by
 subst hn;obtain⟨i0,hi0,hz0,hz1,hz2⟩:=bF LY;have hl2:=hsrc.len
 cases sp2 with
 | none =>
   have hm:m=0:=by
    by_cases h0:0<m
    ·obtain⟨_,_,e,_⟩:=hsrc.cells h0;cases e
    ·omega
   subst hm;have e2:l2=[]:=List.eq_nil_of_length_eq_zero hl2;subst e2;rw[hnil rfl] at hx;have hrun:=run_append_owned_none (P:=Tryz.prog) (w:=w) base 23 o.type 50 i0 20 Tryz.underlying23 hi0 v l.length _ hown.1;obtain⟨sp,cap,rfl⟩:=aM hown.1;unfold Oper.wp;simp[execOp,ho,resolve,invoke,builtin,hs,hx,hrun,Result.andThen];exact h sp cap w (by show OwnG _ _ _ _;simpa using hown) (Below.refl _ _) (World.grownBy.refl _ _)
 | some ad =>
   refine wp_append_own w s x _ ho base _ i0 _ 20 80 Tryz.underlying23 hi0 hz0 hz1 hz2 rfl (by decide) v l.length _ hs hown.1 ad m cap2 (aR l2) hx (by rw[←hl2];exact lI aX 20 l2 (fun z hz=>aJ (hsrc.ok z hz))) ?_ rN (by unfold maxLen;omega) zo hbase ?_
   ·intro j u hj;obtain⟨y,h1,h2⟩:=uA aX 20 (by decide) l2 (fun z hz=>aJ (hsrc.ok z hz)) j u hj;have hlt:=(List.getElem?_eq_some_iff.1 h1).1;obtain⟨b,off,e,_,_,hr⟩:=hsrc.cells zo;injection e with e;subst e
    have:=hr _ y h1 _ u h2;rw[Addr.add_mid];rw[show off+j=off+j / 20*20+j % 20 by omega];exact this
   ·intro v' w' h1 h2 _;obtain⟨sp,cap,rfl⟩:=aM h1;refine h sp cap w' ⟨by rw[eL,List.length_append,hl2];exact h1,fun z hz=>?_⟩ ((Below.refl base w).grown h2 hbase (bO hown.1)) h2;rcases List.mem_append.1 hz with hz | hz
    ·exact hown.2 z hz
    ·exact hsrc.ok z hz
theorem yF (sp:Option Addr) (n cap:Nat) (l:List Sg) (x:Sg) (w:World) (hl:SgsIn w w.heap.size sp n cap l) (hnil:sp=none→cap=0) (hx:OkG x) (hdx:SgD w w.heap.size x) (hn:n≤1000) :
 Calls Tryz.prog 38 #[.slice sp n cap,.agg (aX x).toArray] w fun e w'=>∃ sp' cap' k,k≤n∧e=.returned (.slice sp' (n+1) cap')∧OwnG w' w.heap.size (.slice sp' (n+1) cap') (l.take k++x :: l.drop k)∧LoP (l.map pg) (pg x) k∧(∀ z,(l.map pg)[k]? = some z→dls (idP z) (idP (pg x))=false)∧Below w.heap.size w w':=by
 have HL:=zh hl;have IQ:=zh hnil;have HOX:=zh hx;have HDX:=zh hdx;have HIX:=zh (gG hx);have HID:=zh (iG hx);have HNW:=zh (GB.new w x);have HCX:Hid (∀ w',Calls Tryz.prog 37 #[.agg (sgP x).toArray] w' fun e w''=>e=.returned (.agg (dv (idP (pg x))))∧Below w'.heap.size w' w''):=fun w'=>oL x.h x.r w' HOX.out;have HU32:=zh (iU (pg x));clear hl hnil hx hdx
 go_enter Tryz.func38,Tryz.ntmps38
 go_wp2_with fail;generalize hw0:World.alloc w _=w0;have HX0:=zh (show GB w0 w.heap.size x by rw[←hw0];exact HNW.out);have HB0:=zh (show Below w.heap.size w w0 by rw[←hw0];exact (Below.refl _ _).alloc zl _);obtain⟨B,hBe⟩:∃ B,B=w.heap.size+1:=⟨_,rfl⟩;have hBk:B≤w0.heap.size:=by rw[hBe,←hw0];simp
 have HLT:Hid (w.heap.size<B):=by show _<_;omega
 clear hw0 HNW hBe
 go_loopw [5,6] (fun v i wr=>∃ (k c:Nat) (g:Option Addr),v=.slice g k c∧i=.int .i64 k∧k≤n∧Hid (OwnG wr B (.slice g k c) (l.take k)∧LoP (l.map pg) (pg x) k∧Below B w0 wr)) (fun _ i _=>n-(intOf i).toNat)
 case atStart=>exact⟨0,0,none,rfl,rfl,Nat.zero_le _,OwnG.nil _ _,fun m z hm=>(by omega),Below.refl _ _⟩
 case round =>
  obtain⟨k,c,gv,rfl,rfl,hk,H⟩:=hrel;have HO:=zh H.out.1;have TU:=zh H.out.2.1;have CK:=zh H.out.2.2;clear H;have HKL:=zh (show k=(l.take k).length by rw[List.length_take,HL.out.len];omega);have p1:(0:Int)≤(k:Int):=by omega
  have q0:IntKind.i64.wrap (k:Int)=(k:Int):=IntWalk.i64_in _ zo;by_cases hlt:k<n
  ·have hd:decide ((k:Int)<(n:Int))=true:=by simp;omega
   have p2:(k:Int)<(n:Int):=by omega
   obtain⟨b,off,rfl,hbB,hcap,hr⟩:=HL.out.cells zo;obtain⟨y,hy⟩:∃ y,l[k]? = some y:=⟨l[k]'(by have:=HL.out.len;omega),List.getElem?_eq_getElem _⟩;have HYM:=zh (List.mem_of_getElem? hy);have HYR:=zh (hr k y hy);have HBB:=zh hbB;have HOY:=zh (HL.out.ok y HYM.out);have HIY:=zh (iG HOY.out);have HIYB:=zh (gG HOY.out);have HT:=zh (show l.take (k+1)=l.take k++[y] by rw[List.take_add_one,hy];rfl);have HYX:Hid ((l.map pg)[k]? = some (pg y)):=by show _=_;rw[List.getElem?_map,hy];rfl
   have HCY:Hid (∀ w',Calls Tryz.prog 37 #[.agg (sgP y).toArray] w' fun e w''=>e=.returned (.agg (dv (idP (pg y))))∧Below w'.heap.size w' w''):=fun w'=>oL y.h y.r w' HOY.out;have HCL:Hid (∀ w',Calls Tryz.prog 46 #[.agg (dv (idP (pg y))),.agg (dv (idP (pg x)))] w' fun e w''=>e=.returned (.bool (dls (idP (pg y)) (idP (pg x))))∧Below w'.heap.size w' w''):=fun w'=>DR (idP (pg y)) (idP (pg x)) w' (iU _) HU32.out;clear hr hy
   cases hdl:dls (idP (pg y)) (idP (pg x))
   ·rw[hdl] at HCL;have XG:=zh (show ∀ z,(l.map pg)[k]? = some z→dls (idP z) (idP (pg x))=false from fun z hz=>by rw[HYX.out] at hz;injection hz with hz;rw[←hz];exact hdl);clear hdl;generalize hiy:idP (pg y)=iy at HCY HCL;generalize hix:idP (pg x)=ix at HCX HCL;clear hiy hix;go_wp2_with fail;refine wp_region_held_drew (S:=fun w'=>Below B w0 w') (by kernel_rfl) CK.out.drew (fun hHeld=>?_);refine zv 0 rfl ?_;refine zv 1 rfl ?_;refine zv 2 rfl ?_;refine zv 3 rfl ?_;refine zv 4 rfl ?_;refine zv 5 rfl ?_;refine zv 6 rfl ?_;refine zv 7 rfl ?_;refine zv 8 rfl ?_;refine' zk 9 rfl (v:=_) (yieldsIf_load_mid (by rfl) _ _ rfl _ _ rfl _ _ ?hS9n10 Tryz.underlying44 rfl HIY.out) ?rest9n10
    case hS9n10 =>
     intro w' hSw;exact (pL (aB HYR.out (HB0.out.trans (hSw.mono (Nat.le_of_lt HLT.out))) HBB.out))
    try simp only[Act.put,zu]
    refine zv 11 rfl ?_;refine' zk 12 rfl (v:=_) (yieldsIf_load_mid (by rfl) _ _ rfl _ _ rfl _ _ ?hS12n12 Tryz.underlying44 rfl HID.out) ?rest12n12
    case hS12n12 =>
     intro w' hSw;exact (HX0.out.below hSw HLT.out).p
    try simp only[Act.put,zu]
    refine zr 10 rfl (fun K hK=>?_);go_simp
    with_reducible refine (HCY.out _).mono ?_
    rintro e v1 ⟨rfl,hb⟩;have fX:Hid (Below B w0 v1):=(CK.out.drew).trans (hb.mono (by have:=((CK.out.drew)).size;have:=hBk;omega));have HOv1:=zh ((HO.out.below ((Below.refl wr.heap.size wr).drew)).below hb);clear hb;go_wp2_with fail;refine hK.out _ _ fX.out fun _=>?_;clear hK K
    try simp only[Act.put,zu]
    refine zr 13 rfl (fun K hK=>?_);go_simp
    with_reducible refine (HCX.out _).mono ?_
    rintro e v2 ⟨rfl,hb⟩;have mK:Hid (Below B w0 v2):=fX.out.trans (hb.mono (by have:=(fX.out).size;have:=hBk;omega));have HOv2:=zh (HOv1.out.below hb);clear hb;go_wp2_with fail;refine hK.out _ _ mK.out fun _=>?_;clear hK K
    try simp only[Act.put,zu]
    refine zr 14 rfl (fun K hK=>?_);go_simp
    with_reducible refine (HCL.out _).mono ?_
    rintro e wd ⟨rfl,hb⟩;have NR:Hid (Below B w0 wd):=mK.out.trans (hb.mono (by have:=(mK.out).size;have:=hBk;omega));have HOW:=zh (HOv2.out.below hb);clear hb;go_wp2_with fail;refine hK.out _ _ NR.out fun _=>?_;clear hK K
    try simp only[Act.put,zu]
    refine zv 15 rfl ?_;refine zd ?_ _;have HBD:=NR;clear hHeld;go_wp2_with fail;have HOD:=zh HOW.out;have HSD:=zh (show B≤wd.heap.size from Nat.le_trans hBk HBD.out.size);refine wp_region_held_drew (S:=fun w'=>Below B w0 w') (by kernel_rfl) (HBD.out.drew) (fun hHeld=>?_);refine zv 0 rfl ?_;refine' zk 1 rfl (v:=_) (yieldsIf_load_mid (by rfl) _ _ rfl _ _ rfl _ _ ?hS1n28 Tryz.underlying50 rfl HIX.out) ?rest1n28
    case hS1n28 =>
     intro w' hSw;exact ((HX0.out.below hSw HLT.out).all)
    try simp only[Act.put,zu]
    refine zv 4 rfl ?_;refine zv 5 rfl ?_;refine' zk 6 rfl (v:=_) (lN (by rfl) _ _ rfl (some ⟨b,off,none⟩) n cap k rfl rfl hk) ?rest6n31
    try simp only[Act.put,zu]
    refine zr 2 rfl (fun K hK=>?_);rw[if_pos (by rfl)];refine aZ 23 1 [(0,.tmp 33)] rfl [(0,.agg (aX x).toArray)] rfl _ _ (rH _ x HOX.out) ?_;have HZ3:=zh (GB.new wd.drew x);have HB3:=zh (HBD.out.drew.alloc HSD.out (.cells (aX x).toArray 50));have HO3:=zh (HOD.out.below ((Below.refl wd.heap.size wd).drew.alloc zl (.cells (aX x).toArray 50)));generalize World.alloc wd.drew _=w3 at *;have HB1:=zh (SgsIn.one (show GB w3 wd.heap.size x from HZ3.out) HOX.out (HDX.out.up (HB0.out.trans (HB3.out.mono (Nat.le_of_lt HLT.out))) zl));refine hK.out _ _ HB3.out fun _=>?_;clear hK K
    try simp only[Act.put,zu]
    refine zr 3 rfl (fun K hK=>?_);rw[if_pos (by rfl)];refine fH (.tmp 32) (.tmp 34) rfl B _ (l.take k) k HKL.out rfl HO3.out (some ⟨wd.heap.size,0,none⟩) 1 1 _ [x] rfl HB1.out (fun h=>(by cases h)) zo (Nat.le_trans hBk HB3.out.size) ?_;intro sp4 c4 w4 HO4 HB4 HG4;have HB5:=zh (HB3.out.trans HB4.out);refine hK.out _ _ HB5.out fun _=>?_;clear hK K
    try simp only[Act.put,zu]
    refine zr 7 rfl (fun K hK=>?_);rw[if_pos (by rfl)];refine fH (.tmp 35) (.tmp 38) rfl B _ (l.take k++[x]) (k+1) (by rw[List.length_append,←HKL.out];rfl) rfl HO4.out _ (n-k) (cap-k) _ _ rfl ((HL.out.below (HB0.out.trans (HB5.out.mono (Nat.le_of_lt HLT.out))) zl).cutG hk) (by rw[DC];exact fun h=>by rw[IQ.out h];simp) zo (Nat.le_trans hBk HB5.out.size) ?_;intro sp6 c6 w6 HO6 HB6 HG6;have HB7:=zh (HB5.out.trans HB6.out);refine hK.out _ _ HB7.out fun _=>?_;clear hK K
    try simp only[Act.put,zu]
    refine zv 8 rfl ?_;refine zd ?_ _;clear hHeld;have HKN:=zh (show k+1+(n-k)=n+1 by omega);have HO8:=zh (show OwnG w6 w.heap.size (.slice sp6 (k+1+(n-k)) c6) (l.take k++x :: l.drop k) by have:=HO6.out.base (Nat.le_of_lt HLT.out);rw[List.append_assoc] at this;exact this);go_wp2_with fail;go_ret;exact⟨sp6,c6,k,hk,by rw[←HKN.out];rfl,by rw[←HKN.out];exact HO8.out,TU.out,XG.out,HB0.out.trans (HB7.out.mono (Nat.le_of_lt HLT.out))⟩
   ·rw[hdl] at HCL;have HALL2:Hid (LoP (l.map pg) (pg x) (k+1)):=fun m z hm hz=>by
     by_cases e:m=k
     ·subst e;rw[HYX.out] at hz;injection hz with hz;rw[←hz];exact hdl
     ·exact TU.out m z zo hz
    clear hdl;generalize hiy:idP (pg y)=iy at HCY HCL;generalize hix:idP (pg x)=ix at HCX HCL;clear hiy hix;go_wp2_with fail;refine wp_region_held_drew (S:=fun w'=>Below B w0 w') (by kernel_rfl) CK.out.drew (fun hHeld=>?_);refine zv 0 rfl ?_;refine zv 1 rfl ?_;refine zv 2 rfl ?_;refine zv 3 rfl ?_;refine zv 4 rfl ?_;refine zv 5 rfl ?_;refine zv 6 rfl ?_;refine zv 7 rfl ?_;refine zv 8 rfl ?_;refine' zk 9 rfl (v:=_) (yieldsIf_load_mid (by rfl) _ _ rfl _ _ rfl _ _ ?hS9n23 Tryz.underlying44 rfl HIY.out) ?rest9n23
    case hS9n23 =>
     intro w' hSw;exact (pL (aB HYR.out (HB0.out.trans (hSw.mono (Nat.le_of_lt HLT.out))) HBB.out))
    try simp only[Act.put,zu]
    refine zv 11 rfl ?_;refine' zk 12 rfl (v:=_) (yieldsIf_load_mid (by rfl) _ _ rfl _ _ rfl _ _ ?hS12n25 Tryz.underlying44 rfl HID.out) ?rest12n25
    case hS12n25 =>
     intro w' hSw;exact (HX0.out.below hSw HLT.out).p
    try simp only[Act.put,zu]
    refine zr 10 rfl (fun K hK=>?_);go_simp
    with_reducible refine (HCY.out _).mono ?_
    rintro e v1 ⟨rfl,hb⟩;have fX:Hid (Below B w0 v1):=(CK.out.drew).trans (hb.mono (by have:=((CK.out.drew)).size;have:=hBk;omega));have HOv1:=zh ((HO.out.below ((Below.refl wr.heap.size wr).drew)).below hb);clear hb;go_wp2_with fail;refine hK.out _ _ fX.out fun _=>?_;clear hK K
    try simp only[Act.put,zu]
    refine zr 13 rfl (fun K hK=>?_);go_simp
    with_reducible refine (HCX.out _).mono ?_
    rintro e v2 ⟨rfl,hb⟩;have mK:Hid (Below B w0 v2):=fX.out.trans (hb.mono (by have:=(fX.out).size;have:=hBk;omega));have HOv2:=zh (HOv1.out.below hb);clear hb;go_wp2_with fail;refine hK.out _ _ mK.out fun _=>?_;clear hK K
    try simp only[Act.put,zu]
    refine zr 14 rfl (fun K hK=>?_);go_simp
    with_reducible refine (HCL.out _).mono ?_
    rintro e wd ⟨rfl,hb⟩;have NR:Hid (Below B w0 wd):=mK.out.trans (hb.mono (by have:=(mK.out).size;have:=hBk;omega));have HOW:=zh (HOv2.out.below hb);clear hb;go_wp2_with fail;refine hK.out _ _ NR.out fun _=>?_;clear hK K
    try simp only[Act.put,zu]
    refine zv 15 rfl ?_;refine zd ?_ _;have HBD:=NR;clear hHeld;have HYD:=zh (aB HYR.out (HB0.out.trans (HBD.out.mono (Nat.le_of_lt HLT.out))) HBB.out)
    go_wp2_with (first
     | (refine wpList_load_mid rfl 50 _ rfl b (off+k*20) rfl _ _ HYD.out Tryz.underlying50 rfl HIYB.out ?_)
     | (refine aT rfl 23 1 [(0,.tmp 27)] rfl [(0,.agg (aX y).toArray)] rfl _ _ (rH _ y HOY.out) ?_;have HZ4:=zh (GB.new wd y);have HO4:=zh (HOW.out.below ((Below.refl wd.heap.size wd).alloc zl (.cells (aX y).toArray 50)));have HB4:=zh (HBD.out.alloc (Nat.le_trans hBk HBD.out.size) (.cells (aX y).toArray 50));generalize World.alloc wd _=w4 at *)
     | (at_builtin;refine cZ rfl (.tmp 23) (.tmp 28) rfl B _ (l.take k) k HKL.out rfl HO4.out wd.heap.size y rfl HZ4.out HOY.out zo (Nat.le_trans hBk HB4.out.size) ?_;intro sp5 cap5 w5 HO5 HB5 HG5))
    have HB6:=zh (HB4.out.trans HB5.out);go_roundw
    case rel=>exact⟨k+1,cap5,sp5,rfl,by go_num,by omega,by rw[HT.out];exact HO5.out,HALL2.out,HB6.out⟩
    case measure=>simp[intOf];omega
  ·have hkn:k=n:=by omega
   have hd:decide ((k:Int)<(n:Int))=false:=by simp;omega
   have XG:=zh (show ∀ z,(l.map pg)[k]? = some z→dls (idP z) (idP (pg x))=false from fun z hz=>by rw[List.getElem?_eq_none (by rw[List.length_map];have:=HL.out.len;omega)] at hz;cases hz);clear hkn;go_wp2_with fail
   go_quiet (fail)
   have HBD:=zh (CK.out.trans (show Below B wr (World.drewN wr nq) from ⟨rfl,rfl,rfl,Nat.le_refl _,fun _ _=>rfl⟩));have HOW:=zh (HO.out.below (show Below wr.heap.size wr (World.drewN wr nq) from ⟨rfl,rfl,rfl,Nat.le_refl _,fun _ _=>rfl⟩));generalize World.drewN wr nq=wd at *;go_wp2_with fail;have HOD:=zh HOW.out;have HSD:=zh (show B≤wd.heap.size from Nat.le_trans hBk HBD.out.size);refine wp_region_held_drew (S:=fun w'=>Below B w0 w') (by kernel_rfl) (HBD.out.drew) (fun hHeld=>?_);refine zv 0 rfl ?_;refine' zk 1 rfl (v:=_) (yieldsIf_load_mid (by rfl) _ _ rfl _ _ rfl _ _ ?hS1n34 Tryz.underlying50 rfl HIX.out) ?rest1n34
   case hS1n34 =>
    intro w' hSw;exact ((HX0.out.below hSw HLT.out).all)
   try simp only[Act.put,zu]
   refine zv 4 rfl ?_;refine zv 5 rfl ?_;refine' zk 6 rfl (v:=_) (lN (by rfl) _ _ rfl sp n cap k rfl rfl hk) ?rest6n37
   try simp only[Act.put,zu]
   refine zr 2 rfl (fun K hK=>?_);rw[if_pos (by rfl)];refine aZ 23 1 [(0,.tmp 33)] rfl [(0,.agg (aX x).toArray)] rfl _ _ (rH _ x HOX.out) ?_;have HZ3:=zh (GB.new wd.drew x);have HB3:=zh (HBD.out.drew.alloc HSD.out (.cells (aX x).toArray 50));have HO3:=zh (HOD.out.below ((Below.refl wd.heap.size wd).drew.alloc zl (.cells (aX x).toArray 50)));generalize World.alloc wd.drew _=w3 at *;have HB1:=zh (SgsIn.one (show GB w3 wd.heap.size x from HZ3.out) HOX.out (HDX.out.up (HB0.out.trans (HB3.out.mono (Nat.le_of_lt HLT.out))) zl));refine hK.out _ _ HB3.out fun _=>?_;clear hK K
   try simp only[Act.put,zu]
   refine zr 3 rfl (fun K hK=>?_);rw[if_pos (by rfl)];refine fH (.tmp 32) (.tmp 34) rfl B _ (l.take k) k HKL.out rfl HO3.out (some ⟨wd.heap.size,0,none⟩) 1 1 _ [x] rfl HB1.out (fun h=>(by cases h)) zo (Nat.le_trans hBk HB3.out.size) ?_;intro sp4 c4 w4 HO4 HB4 HG4;have HB5:=zh (HB3.out.trans HB4.out);refine hK.out _ _ HB5.out fun _=>?_;clear hK K
   try simp only[Act.put,zu]
   refine zr 7 rfl (fun K hK=>?_);rw[if_pos (by rfl)];refine fH (.tmp 35) (.tmp 38) rfl B _ (l.take k++[x]) (k+1) (by rw[List.length_append,←HKL.out];rfl) rfl HO4.out _ (n-k) (cap-k) _ _ rfl ((HL.out.below (HB0.out.trans (HB5.out.mono (Nat.le_of_lt HLT.out))) zl).cutG hk) (by rw[DC];exact fun h=>by rw[IQ.out h];simp) zo (Nat.le_trans hBk HB5.out.size) ?_;intro sp6 c6 w6 HO6 HB6 HG6;have HB7:=zh (HB5.out.trans HB6.out);refine hK.out _ _ HB7.out fun _=>?_;clear hK K
   try simp only[Act.put,zu]
   refine zv 8 rfl ?_;refine zd ?_ _;clear hHeld;have HKN:=zh (show k+1+(n-k)=n+1 by omega);have HO8:=zh (show OwnG w6 w.heap.size (.slice sp6 (k+1+(n-k)) c6) (l.take k++x :: l.drop k) by have:=HO6.out.base (Nat.le_of_lt HLT.out);rw[List.append_assoc] at this;exact this);go_wp2_with fail;go_ret;exact⟨sp6,c6,k,hk,by rw[←HKN.out];rfl,by rw[←HKN.out];exact HO8.out,TU.out,XG.out,HB0.out.trans (HB7.out.mono (Nat.le_of_lt HLT.out))⟩
end Go.Proofs.YtaeobegaodhpcaaGreatDoor
