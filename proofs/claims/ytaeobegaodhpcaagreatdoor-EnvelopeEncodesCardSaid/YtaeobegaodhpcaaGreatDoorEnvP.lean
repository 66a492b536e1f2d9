/-
  Envelopes: the walk of the reference's Sign.
-/
import Derived.Test.YtaeobegaodhpcaaGreatDoorZip
import Derived.Test.YtaeobegaodhpcaaGreatDoorEnvO
set_option maxRecDepth 100000
set_option maxHeartbeats 8000000
namespace Go.Proofs.YtaeobegaodhpcaaGreatDoor
open Go.RowKit Go.Proofs.YtaeobegaodhpcaaGreatDoor.One
theorem ZU (L:List Pg) (p:Pg):ZV L (idP p)=AJ L p:=rfl
theorem HiP.of {L:List Pg} {p:Pg} {k:Nat} (hs:xS L) (h:∀ z,L[k]? = some z→dls (idP z) (idP p)=false):HiP L p k:=by
 cases hx:L[k]? with
 | none =>
  intro m y hm hy;have h1:=List.getElem?_eq_none_iff.1 hx;have h2:=(List.getElem?_eq_some_iff.1 hy).1;omega
 | some x=>exact HiP.dn hs hx (h x hx)
def SgO (V:SgV) (p:Value) (l:List Sg) (w:World) (e:Ending) (w':World):Prop :=
 Below w.heap.size w w'∧((V.E≠0∧V=ED V.E∧e=.returned (.tuple #[.agg zEn,.agg (sgA bQ 0 0),.int .i64 V.E]))∨(V.E=0∧∃ sp n cap l',e=.returned (.tuple #[.agg (enA V.t p (.slice sp n cap)),.agg (sgA V.x V.h V.n),.int .i64 0])∧l'.length=n∧l'.map pg=V.L∧OwnG w' w.heap.size (.slice sp n cap) l'∧∀ y ∈ l',y ∈ l∨SgT w' w.heap.size y))
theorem SgO.err {w w':World} {E:Int} {p:Value} {l:List Sg} (hE:E≠0) (hb:Below w.heap.size w w'):SgO (ED E) p l w (.returned (.tuple #[.agg zEn,.agg (sgA bQ 0 0),.int .i64 E])) w':=⟨hb,.inl ⟨hE,rfl,rfl⟩⟩
theorem FO (t:ByteArray) (sp:Option Addr) (n0 cap:Nat) (b:List UInt8) (sq:Option Addr) (m cq:Nat) (l:List Sg) (x:List Int) (h n:Int) (w:World) (ht:t.size≤maxLen) (hp:BSrc w w.heap.size sp n0 cap b) (hpn:sp=none→cap=0) (hl:SgsIn w w.heap.size sq m cq l) (hln:sq=none→cq=0) (hx:H16 x) :
 Calls Tryz.prog 15 #[.agg (enA t (.slice sp n0 cap) (.slice sq m cq)),.agg (sgA x h n)] w (SgO (qN t b (l.map pg) x h n) (.slice sp n0 cap) l w):=by
 have HP:=zh hp;have HPN:=zh hpn;have HL:=zh hl;have HX:=zh hx;have HLNN:=zh hln;clear hp hpn hl hx hln;obtain⟨V,hV⟩:∃ V,qN t b (l.map pg) x h n=V:=⟨_,rfl⟩;rw[hV];have HV:=zh hV;clear hV;have HMO:=zh (kK t b);obtain⟨x1,h1,n1,l1,E,N,M,cl,pl,hS⟩:=tK x h n (fO t b) HX.out HMO.out;have HS:=zh hS;have HX1:=zh hS.hx;clear hS;have HT:=zh (SnF.new w (enA t (.slice sp n0 cap) (.slice sq m cq)) (sgA x h n));have HIE:=zh (aE t (.slice sp n0 cap) (.slice sq m cq))
 go_enter Tryz.func15,Tryz.ntmps15
 go_upto_region 1 with fail
 generalize hw0:World.alloc (World.alloc (World.alloc (World.alloc w _) _) _) _=w0;have HF0:Hid (SnF w (enA t (.slice sp n0 cap) (.slice sq m cq)) (sgA x h n) w0):=by rw[←hw0];exact HT.out
 clear hw0 HT;have HUP:Hid (∀ w',Below w.heap.size w w'→BSrc w' w'.heap.size sp n0 cap b∧SgsIn w' w'.heap.size sq m cq l):=fun w' hb=>⟨(HP.out.below hb zl).more hb.size,HL.out.up hb zl⟩;have HCV:=zh (mB t sp n0 cap b sq m cq l w0 ht (HUP.out _ HF0.out.b).1 (HUP.out _ HF0.out.b).2)
 go_wp2_with (refine wpList_load_row rfl 25 _ rfl w.heap.size rfl 25 _ (0,0) _ HF0.out.e Tryz.underlying25 rfl HIE.out ?_)
 refine HCV.out.mono ?_;rintro e w1 ⟨rfl,hb⟩;have HF1:=zh (HF0.out.below hb);clear hb HCV HF0;have hbe:=fW;have hbs:=fF
 cases hvl:fM t b (l.map pg)
 ·have HVE:=zh (HV.out.symm.trans (SN hvl));clear hvl
  go_wp2_with (first
   | (refine wpList_store_row rfl 25 _ _ rfl (w.heap.size+1+1) zEn rfl rfl 25 _ HF1.out.y (aE _ _ _) rfl (bI _ _ _ _ _ _ _) ?_;generalize hw8:World.setRow w1 _ _=w8;have HY8:Hid (Ah w8 (w.heap.size+1+1) zEn 25):=(by rw[←hw8];exact setRow_heap _ _ _ _ _ _ HF1.out.y);have HZ8:Hid (Ah w8 (w.heap.size+1+1+1) (sgA bQ 0 0) 52):=(by rw[←hw8];exact (setRow_other _ _ _ _ zo).trans HF1.out.z);have HB8:Hid (Bw w w8):=(by rw[←hw8];exact below_setRow HF1.out.b zo _);clear hw8)
   | (refine wpList_store_row rfl 52 _ _ rfl (w.heap.size+1+1+1) (sgA bQ 0 0) rfl rfl 52 _ HZ8.out (aV aN) rfl (dR _ _ _) ?_;generalize hw9:World.setRow w8 _ _=w9;have HZ9:Hid (Ah w9 (w.heap.size+1+1+1) (sgA bQ 0 0) 52):=(by rw[←hw9];exact setRow_heap _ _ _ _ _ _ HZ8.out);have HY9:Hid (Ah w9 (w.heap.size+1+1) zEn 25):=(by rw[←hw9];exact (setRow_other _ _ _ _ zo).trans HY8.out);have HB9:Hid (Bw w w9):=(by rw[←hw9];exact below_setRow HB8.out zo _);clear hw9))
  exact bodyPost_ret (bA (P:=Tryz.prog) rfl _ _ (w.heap.size+1+1) (w.heap.size+1+1+1) 25 52 _ _ (0,0) (0,0) _ _ rfl HY9.out rfl HZ9.out Tryz.underlying25 rfl (aE _ _ _) Tryz.underlying52 rfl (aV aN)) rfl (by rw[HVE.out];exact SgO.err (by decide) HB9.out)
 ·have HVL:=zh hvl;have h8:m≤8:=by have:=uT hvl;rw[List.length_map,HL.out.len] at this;exact this
  have YJ:=zh (uS (IY hvl));clear hvl;go_wp2_with fail;obtain⟨B,hBe⟩:∃ B,B=w1.heap.size:=⟨_,rfl⟩;have sN:Hid (Blks B w1 w1 []):=Blks.start (Below.refl _ _) (Nat.le_of_eq hBe);have HLT:Hid (w.heap.size<B∧w.heap.size+1<B):=⟨by have:=HF1.out.k;omega,by have:=HF1.out.k;omega⟩;have aBh:Hid (w.heap.size+4≤B):=by show _≤_;have:=HF1.out.k;omega
  have NP:Hid (∀ w',Below B w1 w'→Below w.heap.size w w'):=fun w' hb=>HF1.out.b.trans (hb.mono (Nat.le_of_lt HLT.out.1));have HCM:Hid (∀ w',Below B w1 w'→Calls Tryz.prog 34 #[.string t,.slice sp n0 cap] w' fun e w''=>e=.returned (.agg (dgA (fO t b)))∧Below w'.heap.size w' w''):=fun w' hb=>yE t sp n0 cap b w' (HUP.out _ (NP.out _ hb)).1;have HCS:Hid (∀ w',Below B w1 w'→Calls Tryz.prog 33 #[.agg (sgL x h n).toArray,.agg (dgA (fO t b))] w' fun e w''=>∃ sp1 c1 sp2 c2,e=.returned (.tuple #[.agg (sgA x1 h1 n1),.agg (siA l1 (.slice sp1 N c1) (.slice sp2 M c2)),.int .i64 E])∧OwnHv w'' w'.heap.size (.slice sp1 N c1) cl∧OwnHv w'' w'.heap.size (.slice sp2 M c2) pl∧Below w'.heap.size w' w''):=fun w' hb=>HS.out.b w';clear hBe hbe hbs;generalize hMD:fO t b=d at *
  go_cut [7,8,9] (fun s7 s8 s9 wx=>∃ (ga gb:Nat) (sp1:Option Addr) (c1:Nat) (sp2:Option Addr) (c2:Nat),s7=.pointer (some ⟨ga,0,none⟩)∧s8=.pointer (some ⟨gb,0,none⟩)∧s9=.int .i64 E∧Hid (wx.heap[ga]? = some (.cells (sgA x1 h1 n1) 52 (0,0))∧wx.heap[gb]? = some (.cells (siA l1 (.slice sp1 N c1) (.slice sp2 M c2)) 48 (0,0))∧OwnHv wx B (.slice sp1 N c1) cl∧OwnHv wx B (.slice sp2 M c2) pl∧B≤ga∧B≤gb∧Below B w1 wx))
  case first =>
   clear HV HUP HP HPN HL HLNN HVL h8 YJ HMO hMD NP HIE ht HS
   as_aux_lemma =>
    exact zT (p:=∀ (sp1:Option Addr) (c1:Nat) (sp2:Option Addr) (c2:Nat) (ga:Nat) (gb:Nat) (w:World),_→wpAnyH Tryz.prog _ _ _ _ _ _ _ w) (fun T0=>by
     exact zT (p:=∀ (sp1:Option Addr) (c1:Nat) (sp2:Option Addr) (c2:Nat) (ga:Nat) (w:World),_→wpAnyH Tryz.prog _ _ _ _ _ _ _ w) (fun T1=>by
      exact zT (p:=∀ (sp1:Option Addr) (c1:Nat) (sp2:Option Addr) (c2:Nat) (gb:Nat) (w:World),_→wpAnyH Tryz.prog _ _ _ _ _ _ _ w) (fun T2=>by
       exact zT (p:=∀ (ga:Nat) (gb:Nat) (w:World),_→wpAnyH Tryz.prog _ _ _ _ _ _ _ w) (fun T3=>by
        exact zT (p:=∀ (ga:Nat) (w:World),_→wpAnyH Tryz.prog _ _ _ _ _ _ _ w) (fun T4=>by
         exact zT (p:=∀ (gb:Nat) (w:World),_→wpAnyH Tryz.prog _ _ _ _ _ _ _ w) (fun T5=>by
          exact zT (p:=∀ (ga:Nat) (gb:Nat) (w:World),_→wpAnyH Tryz.prog _ _ _ _ _ _ _ w) (fun T6=>by
           refine wp_region_held_drew (S:=fun w'=>Below B w1 w') (by kernel_rfl) sN.out.b.drew (fun hHeld=>?_);refine' zk 0 rfl (v:=_) (yieldsIf_load_mid (by rfl) _ _ rfl _ _ rfl _ _ ?hS0n1 Tryz.underlying52 rfl (jI HX.out)) ?rest0n1
           case hS0n1 =>
            intro w' hSw;exact bC (L:=sgL x h n) ((hSw.block _ HLT.out.2).trans HF1.out.s)
           try simp only[Act.put,zu]
           refine zv 1 rfl ?_;refine zx 2 rfl (v:=?_) ?_ ?_;rotate_left
           ·intro w' hSw;have c0:=IM ((hSw.block _ HLT.out.1).trans HF1.out.e);go_simp;try with_reducible rfl
           refine zv 3 rfl ?_;refine zx 4 rfl (v:=?_) ?_ ?_;rotate_left
           ·intro w' hSw;have c0:=qU ((hSw.block _ HLT.out.1).trans HF1.out.e);go_simp;try with_reducible rfl
           refine wpAnyH_ready (rs:=[5,11,12]) (by kernel_rfl) (by simp) (AllReadyH.cons (o:=_) rfl (fun K hK=>?_) (AllReadyH.cons (o:=_) rfl (fun K hK=>?_) (AllReadyH.cons (o:=_) rfl (fun K hK=>?_) AllReadyH.nil)))
           ·go_simp
            with_reducible refine (HCM.out _ (sN.out.drew).b).mono ?_
            rintro e v1 ⟨rfl,hb⟩;have cA:=zh (sN.out.call ((Below.refl _ _).drew.trans hb));clear hb;go_wp2_with fail;refine hK.out _ _ cA.out.b fun _=>?_;clear hK K;refine wpAnyH_ready (rs:=[6,11,12]) (by kernel_rfl) (by simp) (AllReadyH.cons (o:=_) rfl (fun K hK=>?_) (AllReadyH.cons (o:=_) rfl (fun K hK=>?_) (AllReadyH.cons (o:=_) rfl (fun K hK=>?_) AllReadyH.nil)))
            ·go_simp
             with_reducible refine (HCS.out _ (cA.out).b).mono ?_
             rintro e v2 ⟨sp1,c1,sp2,c2,rfl,hoc,hop,hb⟩;have bJ:=zh (cA.out.call hb);have NW:=zh (hoc.base (cA.out.k));have NU:=zh (hop.base (cA.out.k));clear hb;go_wp2_with fail;refine hK.out _ _ bJ.out.b fun _=>?_;clear hK K;refine zv 7 rfl ?_;refine zv 8 rfl ?_;refine zv 9 rfl ?_;refine zv 10 rfl ?_;refine zs 11 12 rfl (fun K hK=>?_) rfl (fun K hK=>?_)
             ·obtain⟨ga,v3,hg,hw,dN,HEv3⟩:=bJ.out.allocd (.cells (sgA bQ 0 0) 52 (0,0));go_simp
              try rw[hg]
              generalize hq:World.alloc v2 _=q;obtain rfl:v3=q:=hw.symm.trans hq;clear hg hw hq;have CO:=zh (NW.out.below HEv3.out);have CN:=zh (NU.out.below HEv3.out);refine hK.out _ _ dN.out.b fun _=>?_;clear hK K
              try simp only[Act.put,zu]
              exact T1 sp1 c1 sp2 c2 ga v3 (And.intro (zh (dN.out)) (And.intro CO CN))
             ·obtain⟨gb,v3,hg,hw,dN,HEv3⟩:=bJ.out.allocd (.cells (siA 0 aH aH) 48 (0,0));go_simp
              try rw[hg]
              generalize hq:World.alloc v2 _=q;obtain rfl:v3=q:=hw.symm.trans hq;clear hg hw hq;have CO:=zh (NW.out.below HEv3.out);have CN:=zh (NU.out.below HEv3.out);refine hK.out _ _ dN.out.b fun _=>?_;clear hK K
              try simp only[Act.put,zu]
              exact T2 sp1 c1 sp2 c2 gb v3 (And.intro (zh (dN.out)) (And.intro CO CN))
            ·obtain⟨ga,v2,hg,hw,bJ,hU⟩:=cA.out.allocd (.cells (sgA bQ 0 0) 52 (0,0));go_simp
             try rw[hg]
             generalize hq:World.alloc v1 _=q;obtain rfl:v2=q:=hw.symm.trans hq;clear hg hw hq;refine hK.out _ _ bJ.out.b fun _=>?_;clear hK K
             try simp only[Act.put,zu]
             exact T4 ga v2 (zh (bJ.out))
            ·obtain⟨gb,v2,hg,hw,bJ,hU⟩:=cA.out.allocd (.cells (siA 0 aH aH) 48 (0,0));go_simp
             try rw[hg]
             generalize hq:World.alloc v1 _=q;obtain rfl:v2=q:=hw.symm.trans hq;clear hg hw hq;refine hK.out _ _ bJ.out.b fun _=>?_;clear hK K
             try simp only[Act.put,zu]
             exact T5 gb v2 (zh (bJ.out))
           ·obtain⟨ga,v1,hg,hw,cA,qB⟩:=sN.out.allocdD (.cells (sgA bQ 0 0) 52 (0,0));go_simp
            try rw[hg]
            generalize hq:World.drew (World.alloc w1 _)=q;obtain rfl:v1=q:=hw.symm.trans hq;clear hg hw hq;refine hK.out _ _ cA.out.b fun _=>?_;clear hK K;refine zs 5 12 rfl (fun K hK=>?_) rfl (fun K hK=>?_)
            ·go_simp
             with_reducible refine (HCM.out _ (cA.out).b).mono ?_
             rintro e v2 ⟨rfl,hb⟩;have bJ:=zh (cA.out.call hb);clear hb;go_wp2_with fail;refine hK.out _ _ bJ.out.b fun _=>?_;clear hK K
             try simp only[Act.put,zu]
             exact T4 ga v2 (zh (bJ.out))
            ·obtain⟨gb,v2,hg,hw,bJ,hU⟩:=cA.out.allocd (.cells (siA 0 aH aH) 48 (0,0));go_simp
             try rw[hg]
             generalize hq:World.alloc v1 _=q;obtain rfl:v2=q:=hw.symm.trans hq;clear hg hw hq;refine hK.out _ _ bJ.out.b fun _=>?_;clear hK K
             try simp only[Act.put,zu]
             exact T6 ga gb v2 (zh (bJ.out.p2))
           ·obtain⟨gb,v1,hg,hw,cA,qB⟩:=sN.out.allocdD (.cells (siA 0 aH aH) 48 (0,0));go_simp
            try rw[hg]
            generalize hq:World.drew (World.alloc w1 _)=q;obtain rfl:v1=q:=hw.symm.trans hq;clear hg hw hq;refine hK.out _ _ cA.out.b fun _=>?_;clear hK K;refine zs 5 11 rfl (fun K hK=>?_) rfl (fun K hK=>?_)
            ·go_simp
             with_reducible refine (HCM.out _ (cA.out).b).mono ?_
             rintro e v2 ⟨rfl,hb⟩;have bJ:=zh (cA.out.call hb);clear hb;go_wp2_with fail;refine hK.out _ _ bJ.out.b fun _=>?_;clear hK K
             try simp only[Act.put,zu]
             exact T5 gb v2 (zh (bJ.out))
            ·obtain⟨ga,v2,hg,hw,bJ,hU⟩:=cA.out.allocd (.cells (sgA bQ 0 0) 52 (0,0));go_simp
             try rw[hg]
             generalize hq:World.alloc v1 _=q;obtain rfl:v2=q:=hw.symm.trans hq;clear hg hw hq;refine hK.out _ _ bJ.out.b fun _=>?_;clear hK K
             try simp only[Act.put,zu]
             exact T6 ga gb v2 (zh (bJ.out))) (by
           intro ga gb u6 HSu6;refine zr 5 rfl (fun K hK=>?_);go_simp
           with_reducible refine (HCM.out _ (HSu6.out).b).mono ?_
           rintro e v1601 ⟨rfl,hb⟩;have kV:=zh (HSu6.out.call hb);clear hb;go_wp2_with fail;refine hK.out _ _ kV.out.b fun _=>?_;clear hK K
           try simp only[Act.put,zu]
           exact T3 ga gb v1601 (zh (kV.out)))) (by
          intro gb u5 HSu5;refine zs 6 11 rfl (fun K hK=>?_) rfl (fun K hK=>?_)
          ·go_simp
           with_reducible refine (HCS.out _ (HSu5.out).b).mono ?_
           rintro e v1501 ⟨sp1,c1,sp2,c2,rfl,hoc,hop,hb⟩;have dX:=zh (HSu5.out.call hb);have wT:=zh (hoc.base (HSu5.out.k));have wN:=zh (hop.base (HSu5.out.k));clear hb;go_wp2_with fail;refine hK.out _ _ dX.out.b fun _=>?_;clear hK K;refine zv 7 rfl ?_;refine zv 8 rfl ?_;refine zv 9 rfl ?_;refine zv 10 rfl ?_
           try simp only[Act.put,zu]
           exact T2 sp1 c1 sp2 c2 gb v1501 (And.intro (zh (dX.out)) (And.intro wT wN))
          ·obtain⟨ga,v1501,hg,hw,dX,HEv1501⟩:=HSu5.out.allocd (.cells (sgA bQ 0 0) 52 (0,0));go_simp
           try rw[hg]
           generalize hq:World.alloc u5 _=q;obtain rfl:v1501=q:=hw.symm.trans hq;clear hg hw hq;refine hK.out _ _ dX.out.b fun _=>?_;clear hK K
           try simp only[Act.put,zu]
           exact T3 ga gb v1501 (zh (dX.out)))) (by
         intro ga u4 HSu4;refine zs 6 12 rfl (fun K hK=>?_) rfl (fun K hK=>?_)
         ·go_simp
          with_reducible refine (HCS.out _ (HSu4.out).b).mono ?_
          rintro e v1401 ⟨sp1,c1,sp2,c2,rfl,hoc,hop,hb⟩;have dY:=zh (HSu4.out.call hb);have wU:=zh (hoc.base (HSu4.out.k));have wO:=zh (hop.base (HSu4.out.k));clear hb;go_wp2_with fail;refine hK.out _ _ dY.out.b fun _=>?_;clear hK K;refine zv 7 rfl ?_;refine zv 8 rfl ?_;refine zv 9 rfl ?_;refine zv 10 rfl ?_
          try simp only[Act.put,zu]
          exact T1 sp1 c1 sp2 c2 ga v1401 (And.intro (zh (dY.out)) (And.intro wU wO))
         ·obtain⟨gb,v1401,hg,hw,dY,HEv1401⟩:=HSu4.out.allocd (.cells (siA 0 aH aH) 48 (0,0));go_simp
          try rw[hg]
          generalize hq:World.alloc u4 _=q;obtain rfl:v1401=q:=hw.symm.trans hq;clear hg hw hq;refine hK.out _ _ dY.out.b fun _=>?_;clear hK K
          try simp only[Act.put,zu]
          exact T3 ga gb v1401 (zh (dY.out.p2)))) (by
        intro ga gb u3 HSu3;refine zr 6 rfl (fun K hK=>?_);go_simp
        with_reducible refine (HCS.out _ (HSu3.out).b).mono ?_
        rintro e v1301 ⟨sp1,c1,sp2,c2,rfl,hoc,hop,hb⟩;have gM:=zh (HSu3.out.call hb);have wV:=zh (hoc.base (HSu3.out.k));have wP:=zh (hop.base (HSu3.out.k));clear hb;go_wp2_with fail;refine hK.out _ _ gM.out.b fun _=>?_;clear hK K;refine zv 7 rfl ?_;refine zv 8 rfl ?_;refine zv 9 rfl ?_;refine zv 10 rfl ?_
        try simp only[Act.put,zu]
        exact T0 sp1 c1 sp2 c2 ga gb v1301 (And.intro (zh (gM.out)) (And.intro wV wP)))) (by
       intro sp1 c1 sp2 c2 gb u2 ⟨HSu2,HOCu2,HOPu2⟩;refine zr 11 rfl (fun K hK=>?_);obtain⟨ga,v1201,hg,hw,HSv1201,HEv1201⟩:=HSu2.out.allocd (.cells (sgA bQ 0 0) 52 (0,0));go_simp
       try rw[hg]
       generalize hq:World.alloc u2 _=q;obtain rfl:v1201=q:=hw.symm.trans hq;clear hg hw hq;have wW:=zh (HOCu2.out.below HEv1201.out);have wQ:=zh (HOPu2.out.below HEv1201.out);refine hK.out _ _ HSv1201.out.b fun _=>?_;clear hK K
       try simp only[Act.put,zu]
       exact T0 sp1 c1 sp2 c2 ga gb v1201 (And.intro (zh (HSv1201.out)) (And.intro wW wQ)))) (by
      intro sp1 c1 sp2 c2 ga u1 ⟨HSu1,HOCu1,HOPu1⟩;refine zr 12 rfl (fun K hK=>?_);obtain⟨gb,v1101,hg,hw,HSv1101,HEv1101⟩:=HSu1.out.allocd (.cells (siA 0 aH aH) 48 (0,0));go_simp
      try rw[hg]
      generalize hq:World.alloc u1 _=q;obtain rfl:v1101=q:=hw.symm.trans hq;clear hg hw hq;have wX:=zh (HOCu1.out.below HEv1101.out);have wR:=zh (HOPu1.out.below HEv1101.out);refine hK.out _ _ HSv1101.out.b fun _=>?_;clear hK K
      try simp only[Act.put,zu]
      exact T0 sp1 c1 sp2 c2 ga gb v1101 (And.intro (zh (HSv1101.out.p2)) (And.intro wX wR)))) (by
     intro sp1 c1 sp2 c2 ga gb u0 ⟨HSu0,HOCu0,HOPu0⟩;refine zr 13 rfl (fun K hK=>?_);rw[if_pos (by rfl)];refine wp_store_row 52 _ _ rfl ga (sgA x1 h1 n1) rfl rfl 52 _ (HSu0.out.at 0 rfl) (aV HX1.out) (by rw[dD aN,dD HX1.out]) (dR _ _ _) ?_;generalize hw:World.setRow u0 _ _=v1001;have cJ:=zh (HSu0.out.set 0 rfl (sgA x1 h1 n1));rw[hw] at cJ;have oB:=zh (HOCu0.out.setRow (HSu0.out.at 0 rfl) (by decide) (sgA x1 h1 n1));rw[hw] at oB;have nZ:=zh (HOPu0.out.setRow (HSu0.out.at 0 rfl) (by decide) (sgA x1 h1 n1));rw[hw] at nZ;clear hw;refine hK.out _ _ cJ.out.b fun _=>?_;clear hK K;refine zr 14 rfl (fun K hK=>?_);rw[if_pos (by rfl)];refine wp_store_row 48 _ _ rfl gb (siA l1 (.slice sp1 N c1) (.slice sp2 M c2)) rfl rfl 48 _ (cJ.out.at 1 rfl) (aL _ _ _) rfl (cO _ _ _ _ _ _ _) ?_;generalize hw:World.setRow v1001 _ _=v1002;have bY:=zh (cJ.out.set 1 rfl (siA l1 (.slice sp1 N c1) (.slice sp2 M c2)));rw[hw] at bY;have oA:=zh (oB.out.setRow (cJ.out.at 1 rfl) (by decide) (siA l1 (.slice sp1 N c1) (.slice sp2 M c2)));rw[hw] at oA;have nY:=zh (nZ.out.setRow (cJ.out.at 1 rfl) (by decide) (siA l1 (.slice sp1 N c1) (.slice sp2 M c2)));rw[hw] at nY;clear hw;refine hK.out _ _ bY.out.b fun _=>?_;clear hK K;refine zv 15 rfl ?_;refine zd ?_ _;go_wp2_with fail;go_meet;exact⟨ga,gb,sp1,c1,sp2,c2,rfl,rfl,rfl,bY.out.at 0 rfl,bY.out.at 1 rfl,oA.out,nY.out,(bY.out.lt 0 rfl).1,(bY.out.lt 1 rfl).1,bY.out.b⟩)
  case rest =>
  obtain⟨ga,gb,sp1,c1,sp2,c2,rfl,rfl,rfl,HC1⟩:=hcut;have HFc:=zh (HF1.out.belowB HC1.out.2.2.2.2.2.2 aBh.out);have HGA:=zh HC1.out.1;have HGB:=zh HC1.out.2.1;have HOC:=zh HC1.out.2.2.1;have HOP:=zh HC1.out.2.2.2.1;have hga:=HC1.out.2.2.2.2.1;have hgb:=HC1.out.2.2.2.2.2.1;have hBk:=aBh.out;have hgal:=(Array.getElem?_eq_some_iff.1 HGA.out).1;have hgbl:=(Array.getElem?_eq_some_iff.1 HGB.out).1;clear HC1 HCM HCS sN HF1 NP;have hbe:=fW;have hbs:=fF;rcases HS.out.k with ⟨hE,rfl,rfl,rfl⟩ | ⟨rfl,hk,leaf,rfl,rfl,hk6,hlf,rfl,rfl,rfl,rfl,rfl,rfl,rfl,rfl⟩
  ·have HVE:Hid (V=ED E):=by
    have:=SM (x:=x) HVL.out (show sgE h n≠0 by rw[←HS.out.e];exact hE);rw[HV.out] at this;rw[HS.out.e];exact this
   have hq:(E == 0)=false:=by simpa using hE
   have HNE:=zh hE;clear hE
   go_wp2_with (first
    | (refine wpList_store_row rfl 25 _ _ rfl (w.heap.size+1+1) zEn rfl rfl 25 _ HFc.out.y (aE _ _ _) rfl (bI _ _ _ _ _ _ _) ?_;generalize hw8:World.setRow wc _ _=w8;have HY8:Hid (Ah w8 (w.heap.size+1+1) zEn 25):=(by rw[←hw8];exact setRow_heap _ _ _ _ _ _ HFc.out.y);have HZ8:Hid (Ah w8 (w.heap.size+1+1+1) (sgA bQ 0 0) 52):=(by rw[←hw8];exact (setRow_other _ _ _ _ zo).trans HFc.out.z);have HB8:Hid (Bw w w8):=(by rw[←hw8];exact below_setRow HFc.out.b zo _);clear hw8)
    | (refine wpList_store_row rfl 52 _ _ rfl (w.heap.size+1+1+1) (sgA bQ 0 0) rfl rfl 52 _ HZ8.out (aV aN) rfl (dR _ _ _) ?_;generalize hw9:World.setRow w8 _ _=w9;have HZ9:Hid (Ah w9 (w.heap.size+1+1+1) (sgA bQ 0 0) 52):=(by rw[←hw9];exact setRow_heap _ _ _ _ _ _ HZ8.out);have HY9:Hid (Ah w9 (w.heap.size+1+1) zEn 25):=(by rw[←hw9];exact (setRow_other _ _ _ _ zo).trans HY8.out);have HB9:Hid (Bw w w9):=(by rw[←hw9];exact below_setRow HB8.out zo _);clear hw9))
   exact bodyPost_ret (bA (P:=Tryz.prog) rfl _ _ (w.heap.size+1+1) (w.heap.size+1+1+1) 25 52 _ _ (0,0) (0,0) _ _ rfl HY9.out rfl HZ9.out Tryz.underlying25 rfl (aE _ _ _) Tryz.underlying52 rfl (aV aN)) rfl (by rw[HVE.out];exact SgO.err HNE.out HB9.out)
  ·have HE0:=zh (HS.out.e.symm);have aBf:Hid (mF x (hk:Int) (leaf:Int) d=⟨hk,iR x hk 0,leaf,jA x leaf d,eP x hk leaf⟩):=by show _=_;unfold mF;rw[Int.toNat_natCast,Int.toNat_natCast]
   clear HS hbe hbs;have cH:=IK HX.out HFc.out.s;have HXS:=zh (YG HFc.out.s);have HIX:=zh (bS HX.out);have HCN:=zh (PM x hk wc HX.out hk6)
   go_wp2_with (refine wpList_load_mid rfl 42 _ rfl (w.heap.size+1) 0 rfl _ _ HXS.out Tryz.underlying42 rfl HIX.out ?_)
   refine HCN.out.mono ?_;rintro e w2 ⟨rfl,hb⟩;have HB2:=zh hb;clear hb cH HCN HXS;have HNK:=zh (fR x hk 0);generalize hr:iR x hk 0=r at *;have HRE:=zh hr;clear hr;have HZP:=zh (PkRow.new w2 0 bQ);have HRP:=zh (PkRow.new w2 hk r)
   go_upto_region 7 with (refine wpList_store_row rfl 44 _ _ rfl w2.heap.size _ rfl rfl 44 _ HZP.out.k (dS HNK.out) (by rw[jF HNK.out];rfl) (DJ _ _) ?_;rw[aK];generalize hw3:World.alloc w2 _=w3;have HP3:Hid (PkRow w2 hk r w3):=(by rw[←hw3];exact HRP.out);clear hw3 HZP HRP)
   have HB3:=zh (HB2.out.trans (HP3.out.b.mono HB2.out.size));have hs2:=HB2.out.size;obtain⟨X,hX⟩:∃ X:Sg,X=⟨hk,r,leaf,sp1,68,c1,jA x leaf d,sp2,hk,c2,eP x hk leaf⟩:=⟨_,rfl⟩;have HXO:Hid (OkG X):=by rw[hX];exact HNK.out
   have HXP:Hid (pg X=mF x hk leaf d):=by rw[hX,aBf.out];rfl
   have HXT:Hid (SgT wc B X):=by rw[hX];exact⟨HNK.out,HOC.out,HOP.out,lB _ _ _,iQ _ _ _⟩
   have HBX:Hid (∀ w',(Instr.build 50 #[(0,.agg (pkA (hk:Int) r)),(1,.agg (siA (leaf:Int) (.slice sp1 68 c1) (.slice sp2 hk c2)))]).run Tryz.prog w'=.ok (.agg (aX X).toArray) w'):=fun w'=>by have h:=ER (⟨hk,r,leaf,sp1,68,c1,jA x leaf d,sp2,hk,c2,eP x hk leaf⟩:Sg) HNK.out w';rw[hX];exact h
   have YM:Hid (dg (idB (hk:Int) r)=dv (idP (pg X))):=by show _=_;rw[hX];rfl
   clear hX aBf HRE;obtain⟨gp,hgp⟩:∃ gp,gp=w2.heap.size:=⟨_,rfl⟩;have HPK3:Hid (Ah w3 gp (pkA (hk:Int) r) 44):=by rw[hgp];exact HP3.out.k
   have hgp3:gp<w3.heap.size:=(Array.getElem?_eq_some_iff.1 HPK3.out).1;have HF3:=zh (HFc.out.below HB3.out);have HUP3:=zh (HUP.out _ HF3.out.b);rw[←hgp];have hgpc:wc.heap.size≤gp:=by omega
   clear HP3 HB2 hs2 hgp;obtain⟨B3,hB3e⟩:∃ B3,B3=w3.heap.size:=⟨_,rfl⟩;have aBi:Hid (w.heap.size<B3∧gp<B3):=⟨by have:=HF3.out.k;omega,by omega⟩;have AE:Hid (Below B3 w3 w3):=Below.refl _ _;have hBk3:B3≤w3.heap.size:=Nat.le_of_eq hB3e;have HCI:Hid (∀ w',Calls Tryz.prog 37 #[.agg (pkL (hk:Int) r).toArray] w' fun e w''=>e=.returned (.agg (dv (idP (pg X))))∧Below w'.heap.size w' w''):=fun w'=>by
    have h:=oL hk r w' HNK.out;rw[YM.out] at h;exact h
   have HCF:Hid (∀ w',Below B3 w3 w'→Calls Tryz.prog 36 #[.slice sq m cq,.agg (dv (idP (pg X)))] w' fun e w''=>∃ i:Int,e=.returned (.int .i64 i)∧decide (0≤i)=AJ (l.map pg) (mF x hk leaf d)∧Below w'.heap.size w' w''):=fun w' hb=>by
    have h:=KK sq m cq l (idP (pg X)) w' (HUP.out _ (HF3.out.b.trans (hb.mono (Nat.le_of_lt aBi.out.1)))).2 (iU _) zo;have hq:ZV (l.map pg) (idP (pg X))=AJ (l.map pg) (mF x hk leaf d):=by rw[ZU,HXP.out]
    rw[hq] at h;exact h
   obtain⟨dv0,hdv0⟩:∃ dv0,dv (idP (pg X))=dv0:=⟨_,rfl⟩;rw[hdv0] at HCI HCF;have HB3L:Hid (w3.heap.size≤B3):=Nat.le_of_eq hB3e.symm;clear hB3e hdv0 YM HUP3;refine wp_region_held_drew (S:=fun w'=>Below B3 w3 w') (by kernel_rfl) AE.out.drew (fun hHeld=>?_);refine zv 0 rfl ?_;refine zx 1 rfl (v:=?_) ?_ ?_;rotate_left
   ·intro w' hSw;have c0:=iW ((hSw.block _ aBi.out.1).trans HF3.out.e);go_simp;try with_reducible rfl
   refine' zk 2 rfl (v:=_) (yieldsIf_load_mid (by rfl) _ _ rfl _ _ rfl _ _ ?hS2n35 Tryz.underlying44 rfl (jJ HNK.out)) ?rest2n35
   case hS2n35 =>
    intro w' hSw;exact bC (L:=pkL (hk:Int) r) ((hSw.block _ aBi.out.2).trans HPK3.out)
   try simp only[Act.put,zu]
   refine zr 3 rfl (fun K hK=>?_);go_simp
   with_reducible refine (HCI.out _).mono ?_
   rintro e v1 ⟨rfl,hb⟩;have fX:Hid (Below B3 w3 v1):=(AE.out.drew).trans (hb.mono (by have:=((AE.out.drew)).size;have:=hBk3;omega));clear hb;go_wp2_with fail;refine hK.out _ _ fX.out fun _=>?_;clear hK K
   try simp only[Act.put,zu]
   refine zr 4 rfl (fun K hK=>?_);go_simp
   with_reducible refine (HCF.out _ fX.out).mono ?_
   rintro e w5 ⟨i,rfl,hfi,hb⟩;have RS:Hid (Below B3 w3 w5):=fX.out.trans (hb.mono (by have:=(fX.out).size;have:=hBk3;omega));clear hb;go_wp2_with fail;refine hK.out _ _ RS.out fun _=>?_;clear hK K
   try simp only[Act.put,zu]
   refine zv 5 rfl ?_;refine zd ?_ _;clear hHeld;have hc3:=HB3.out.size;have SB:Hid (Bw wc w5):=HB3.out.trans (RS.out.mono (by have:=aBi.out;omega));have HF5:=zh (HFc.out.below SB.out);have HPK5:=zh ((RS.out.block _ aBi.out.2).trans HPK3.out);have HGB5:=zh ((SB.out.block _ hgbl).trans HGB.out);clear fX RS AE HCI HCF HF3 HPK3 HGB HB3L;have hbe:=fW;have hbs:=fF;have cS:=iW HF5.out.e;have hlm:(l.map pg).length=m:=by rw[List.length_map];exact HL.out.len
   have HLM:=zh hlm;clear hlm
   cases hhas:AJ (l.map pg) (mF x hk leaf d)
   ·have aBk:=zh hhas;rw[hhas] at hfi;clear hhas;by_cases h8e:m=8
    ·have HVE:Hid (V=ED 3):=by
      have:=SL (x:=x) HVL.out HE0.out (by rw[hMD];exact aBk.out) (by rw[HLM.out];exact h8e);rw[HV.out] at this;exact this
     have hq:((m:Int) == 8)=true:=by rw[h8e];rfl
     go_wp2_with (first
      | (refine wpList_store_row rfl 25 _ _ rfl (w.heap.size+1+1) zEn rfl rfl 25 _ HF5.out.y (aE _ _ _) rfl (bI _ _ _ _ _ _ _) ?_;generalize hw8:World.setRow w5 _ _=w8;have HY8:Hid (Ah w8 (w.heap.size+1+1) zEn 25):=(by rw[←hw8];exact setRow_heap _ _ _ _ _ _ HF5.out.y);have HZ8:Hid (Ah w8 (w.heap.size+1+1+1) (sgA bQ 0 0) 52):=(by rw[←hw8];exact (setRow_other _ _ _ _ zo).trans HF5.out.z);have HB8:Hid (Bw w w8):=(by rw[←hw8];exact below_setRow HF5.out.b zo _);clear hw8)
      | (refine wpList_store_row rfl 52 _ _ rfl (w.heap.size+1+1+1) (sgA bQ 0 0) rfl rfl 52 _ HZ8.out (aV aN) rfl (dR _ _ _) ?_;generalize hw9:World.setRow w8 _ _=w9;have HZ9:Hid (Ah w9 (w.heap.size+1+1+1) (sgA bQ 0 0) 52):=(by rw[←hw9];exact setRow_heap _ _ _ _ _ _ HZ8.out);have HY9:Hid (Ah w9 (w.heap.size+1+1) zEn 25):=(by rw[←hw9];exact (setRow_other _ _ _ _ zo).trans HY8.out);have HB9:Hid (Bw w w9):=(by rw[←hw9];exact below_setRow HB8.out zo _);clear hw9))
     exact bodyPost_ret (bA (P:=Tryz.prog) rfl _ _ (w.heap.size+1+1) (w.heap.size+1+1+1) 25 52 _ _ (0,0) (0,0) _ _ rfl HY9.out rfl HZ9.out Tryz.underlying25 rfl (aE _ _ _) Tryz.underlying52 rfl (aV aN)) rfl (by rw[HVE.out];exact SgO.err (by decide) HB9.out)
    ·have HVE:Hid (V=⟨0,t,b,sR (l.map pg) (mF x hk leaf d),x,hk,leaf+1⟩):=by
      have:=JZ (x:=x) HVL.out HE0.out (by rw[hMD];exact aBk.out) (by rw[HLM.out];exact h8e);rw[HV.out,hMD] at this;exact this
     have hq:((m:Int) == 8)=false:=by simp;omega
     clear hbe hbs;have aAq:=zh (HUP.out _ HF5.out.b);have HXT5:=zh (HXT.out.below SB.out);have hBk5:w.heap.size+4≤w5.heap.size:=HF5.out.k;have hc5:=SB.out.size;have HCN:=zh (yF sq m cq l X w5 aAq.out.2 HLNN.out HXO.out HXT5.out.dat zo)
     go_wp2_with (first
      | (refine wpList_load_row rfl 44 _ rfl gp rfl 44 _ (0,0) _ HPK5.out Tryz.underlying44 rfl (dS HNK.out) ?_)
      | (refine wpList_load_row rfl 48 _ rfl gb rfl 48 _ (0,0) _ HGB5.out Tryz.underlying48 rfl (aL _ _ _) ?_)
      | (refine bB rfl 50 [(0,.tmp 57),(1,.tmp 58)] rfl [(0,.agg (pkA (hk:Int) r)),(1,.agg (siA (leaf:Int) (.slice sp1 68 c1) (.slice sp2 hk c2)))] rfl _ (HBX.out _) ?_))
     refine HCN.out.mono ?_;rintro e w9 ⟨sp9,cap9,k,hkm,rfl,HO9',hlo,hst,hb⟩;have HB9:Hid (Bw w5 w9):=hb;have HO9:=zh HO9';have HIA:=zh (LR (by rw[List.length_map,HL.out.len];exact hkm) hlo (HiP.of YJ.out hst));rw[HXP.out] at HIA;clear hb HO9' hlo hst HCN cS aAq;have HF9:=zh (HF5.out.below HB9.out);have aAp:=zh (HXT5.out.below HB9.out);have cS9:=iW HF9.out.e;have fS9:=frozen_of_row _ _ 2 _ _ HF9.out.e;have aBn:Hid ((w9.setCell ⟨w.heap.size,2,none⟩ (.slice sp9 (m+1) cap9)).heap[w.heap.size]? = some (.cells (enA t (.slice sp n0 cap) (.slice sp9 (m+1) cap9)) 25 (0,0))):=by
      have h:=heap_setCell_same w9 w.heap.size 2 _ _ (.slice sp9 (m+1) cap9) HF9.out.e;rw[uC] at h;exact h
     have HO10:Hid (OwnG (w9.setCell ⟨w.heap.size,2,none⟩ (.slice sp9 (m+1) cap9)) w5.heap.size (.slice sp9 (m+1) cap9) (l.take k++X :: l.drop k)):=⟨World.ownsRow.kept HO9.out.1 (aY _ _ _ _) (cN HO9.out.1 HF9.out.e (by decide)),HO9.out.2⟩;have XE:Hid (SgT (w9.setCell ⟨w.heap.size,2,none⟩ (.slice sp9 (m+1) cap9)) B X):=aAp.out.setCell HF9.out.e oQ _ _;have HBA0:Hid (Below w.heap.size w (w9.setCell ⟨w.heap.size,2,none⟩ (.slice sp9 (m+1) cap9))):=HF9.out.b.setCell (p:=⟨w.heap.size,2,none⟩) zl _;have HB1A0:Hid (Below (w.heap.size+1) w9 (w9.setCell ⟨w.heap.size,2,none⟩ (.slice sp9 (m+1) cap9))∨True):=.inr trivial;have HYA0:Hid ((w9.setCell ⟨w.heap.size,2,none⟩ (.slice sp9 (m+1) cap9)).heap[w.heap.size+1+1]? = some (.cells zEn 25 (0,0))):=(heap_setCell_other w9 ⟨w.heap.size,2,none⟩ _ _ (show _≠w.heap.size by omega)).trans HF9.out.y;have HZA0:Hid ((w9.setCell ⟨w.heap.size,2,none⟩ (.slice sp9 (m+1) cap9)).heap[w.heap.size+1+1+1]? = some (.cells (sgA bQ 0 0) 52 (0,0))):=(heap_setCell_other w9 ⟨w.heap.size,2,none⟩ _ _ (show _≠w.heap.size by omega)).trans HF9.out.z;have hlw:w.heap.size+4≤ga:=by omega
     have HGA0:Hid ((w9.setCell ⟨w.heap.size,2,none⟩ (.slice sp9 (m+1) cap9)).heap[ga]? = some (.cells (sgA x (hk:Int) ((leaf:Int)+1)) 52 (0,0))):=(heap_setCell_other w9 ⟨w.heap.size,2,none⟩ _ _ (show _≠w.heap.size by omega)).trans ((HB9.out.block _ zo).trans ((SB.out.block _ hgal).trans HGA.out));clear HB1A0
     go_upto_region 12 with fail
     generalize World.setCell w9 _ _=wA at *;have HYA:=HYA0;have HZA:=HZA0;have aBl:=HGA0;have HBA:=HBA0;clear HYA0 HZA0 HGA0 HBA0 cS9 fS9 HO9 aAp HF9 HXT5 HPK5 HGB5;have hwA:=HBA.out.size;have XK:=zh (HO10.out.below (Below.refl _ _).drew);have XC:=zh (XE.out.below (Below.refl _ _).drew);have HYD:Hid (wA.drew.heap[w.heap.size+1+1]? = some (.cells zEn 25 (0,0))):=HYA.out;refine wp_region_held_drew (S:=fun w'=>w'.heap[w.heap.size]? = some (.cells (enA t (.slice sp n0 cap) (.slice sp9 (m+1) cap9)) 25 (0,0))∧w'.heap[ga]? = some (.cells (sgA x (hk:Int) ((leaf:Int)+1)) 52 (0,0))) (by kernel_rfl) ⟨aBn.out,aBl.out⟩ (fun hHeld=>?_);refine' zk 0 rfl (v:=_) (yieldsIf_load_mid (by rfl) _ _ rfl _ _ rfl _ _ ?hS0n37 Tryz.underlying25 rfl (jK t (.slice sp n0 cap) (.slice sp9 (m+1) cap9))) ?rest0n37
     case hS0n37 =>
      intro w' hSw;exact bC (L:=enL t (.slice sp n0 cap) (.slice sp9 (m+1) cap9)) hSw.1
     try simp only[Act.put,zu]
     refine' zk 1 rfl (v:=_) (yieldsIf_load_mid (by rfl) _ _ rfl _ _ rfl _ _ ?hS1n38 Tryz.underlying52 rfl (jI HX.out)) ?rest1n38
     case hS1n38 =>
      intro w' hSw;exact bC (L:=sgL x (hk:Int) ((leaf:Int)+1)) hSw.2
     try simp only[Act.put,zu]
     refine zr 2 rfl (fun K hK=>?_);rw[if_pos (by rfl)];refine wp_store_row 25 _ _ rfl (w.heap.size+1+1) (enA t (.slice sp n0 cap) (.slice sp9 (m+1) cap9)) rfl rfl 25 _ HYA.out (aE _ _ _) rfl (bI _ _ _ _ _ _ _) ?_;generalize hw:World.setRow _ _ _=wB;have HYB:Hid (Ah wB (w.heap.size+1+1) (enA t (.slice sp n0 cap) (.slice sp9 (m+1) cap9)) 25):=by rw[←hw];exact setRow_heap _ _ _ _ _ _ HYA.out
     have HZB:Hid (Ah wB (w.heap.size+1+1+1) (sgA bQ 0 0) 52):=by rw[←hw];exact (setRow_other _ _ _ _ zo).trans HZA.out
     have HEB:Hid (Ah wB w.heap.size (enA t (.slice sp n0 cap) (.slice sp9 (m+1) cap9)) 25):=by rw[←hw];exact (setRow_other _ _ _ _ zo).trans aBn.out
     have HGB:Hid (Ah wB ga (sgA x (hk:Int) ((leaf:Int)+1)) 52):=by rw[←hw];exact (setRow_other _ _ _ _ zo).trans aBl.out
     have HBB:Hid (Bw w wB):=by rw[←hw];exact below_setRow HBA.out.drew zo _
     have XJ:Hid (OwnG wB w5.heap.size (.slice sp9 (m+1) cap9) (l.take k++X :: l.drop k)):=by rw[←hw];exact⟨World.ownsRow.kept XK.out.1 (bT _ _ _) (cN XK.out.1 HYD.out (by decide)),XK.out.2⟩
     have XB:Hid (SgT wB B X):=by rw[←hw];exact XC.out.setRow HYD.out (by decide) _
     clear hw;refine hK.out _ _ ⟨HEB.out,HGB.out⟩ fun _=>?_;clear hK K;refine zr 3 rfl (fun K hK=>?_);rw[if_pos (by rfl)];refine wp_store_row 52 _ _ rfl (w.heap.size+1+1+1) (sgA x (hk:Int) ((leaf:Int)+1)) rfl rfl 52 _ HZB.out (aV HX.out) (by rw[dD aN,dD HX.out]) (dR _ _ _) ?_;generalize hw:World.setRow _ _ _=wC;have HYC:Hid (Ah wC (w.heap.size+1+1) (enA t (.slice sp n0 cap) (.slice sp9 (m+1) cap9)) 25):=by rw[←hw];exact (setRow_other _ _ _ _ zo).trans HYB.out
     have HZC:Hid (Ah wC (w.heap.size+1+1+1) (sgA x (hk:Int) ((leaf:Int)+1)) 52):=by rw[←hw];exact setRow_heap _ _ _ _ _ _ HZB.out
     have HEC:Hid (Ah wC w.heap.size (enA t (.slice sp n0 cap) (.slice sp9 (m+1) cap9)) 25):=by rw[←hw];exact (setRow_other _ _ _ _ zo).trans HEB.out
     have HGC:Hid (Ah wC ga (sgA x (hk:Int) ((leaf:Int)+1)) 52):=by rw[←hw];exact (setRow_other _ _ _ _ zo).trans HGB.out
     have HBC:Hid (Bw w wC):=by rw[←hw];exact below_setRow HBB.out zo _
     have aBa:Hid (OwnG wC w5.heap.size (.slice sp9 (m+1) cap9) (l.take k++X :: l.drop k)):=by rw[←hw];exact⟨World.ownsRow.kept XJ.out.1 (bT _ _ _) (cN XJ.out.1 HZB.out (by decide)),XJ.out.2⟩
     have XA:Hid (SgT wC B X):=by rw[←hw];exact XB.out.setRow HZB.out (by decide) _
     clear hw;refine hK.out _ _ ⟨HEC.out,HGC.out⟩ fun _=>?_;clear hK K;refine zv 4 rfl ?_;refine zd ?_ _;go_wp2_with fail;refine bodyPost_ret (bA (P:=Tryz.prog) rfl _ _ (w.heap.size+1+1) (w.heap.size+1+1+1) 25 52 _ _ (0,0) (0,0) _ _ rfl HYC.out rfl HZC.out Tryz.underlying25 rfl (aE _ _ _) Tryz.underlying52 rfl (aV HX.out)) rfl ?_;rw[HVE.out];refine⟨HBC.out,.inr ⟨rfl,sp9,m+1,cap9,l.take k++X :: l.drop k,rfl,?_,?_,⟨aBa.out.1,aBa.out.2⟩ |> fun h:OwnG wC w5.heap.size (.slice sp9 (m+1) cap9) (l.take k++X :: l.drop k)=>h.base zo,?_⟩⟩
     ·rw[List.length_append,List.length_cons,List.length_take,List.length_drop,HL.out.len];omega
     ·show _=sR (l.map pg) (mF x hk leaf d);rw[HIA.out,List.map_append,List.map_cons,List.map_take,List.map_drop,HXP.out]
     ·intro y hy;rcases List.mem_append.1 hy with h | h
      ·exact .inl (List.mem_of_mem_take h)
      ·rcases List.mem_cons.1 h with rfl | h
       ·exact .inr (XA.out.base zo)
       ·exact .inl (List.mem_of_mem_drop h)
   ·have HVE:Hid (V=ED 5):=by
     have:=SK (x:=x) HVL.out HE0.out (by rw[hMD];exact hhas);rw[HV.out] at this;exact this
    rw[hhas] at hfi;clear hhas
    go_wp2_with (first
     | (refine wpList_store_row rfl 25 _ _ rfl (w.heap.size+1+1) zEn rfl rfl 25 _ HF5.out.y (aE _ _ _) rfl (bI _ _ _ _ _ _ _) ?_;generalize hw8:World.setRow w5 _ _=w8;have HY8:Hid (Ah w8 (w.heap.size+1+1) zEn 25):=(by rw[←hw8];exact setRow_heap _ _ _ _ _ _ HF5.out.y);have HZ8:Hid (Ah w8 (w.heap.size+1+1+1) (sgA bQ 0 0) 52):=(by rw[←hw8];exact (setRow_other _ _ _ _ zo).trans HF5.out.z);have HB8:Hid (Bw w w8):=(by rw[←hw8];exact below_setRow HF5.out.b zo _);clear hw8)
     | (refine wpList_store_row rfl 52 _ _ rfl (w.heap.size+1+1+1) (sgA bQ 0 0) rfl rfl 52 _ HZ8.out (aV aN) rfl (dR _ _ _) ?_;generalize hw9:World.setRow w8 _ _=w9;have HZ9:Hid (Ah w9 (w.heap.size+1+1+1) (sgA bQ 0 0) 52):=(by rw[←hw9];exact setRow_heap _ _ _ _ _ _ HZ8.out);have HY9:Hid (Ah w9 (w.heap.size+1+1) zEn 25):=(by rw[←hw9];exact (setRow_other _ _ _ _ zo).trans HY8.out);have HB9:Hid (Bw w w9):=(by rw[←hw9];exact below_setRow HB8.out zo _);clear hw9))
    exact bodyPost_ret (bA (P:=Tryz.prog) rfl _ _ (w.heap.size+1+1) (w.heap.size+1+1+1) 25 52 _ _ (0,0) (0,0) _ _ rfl HY9.out rfl HZ9.out Tryz.underlying25 rfl (aE _ _ _) Tryz.underlying52 rfl (aV aN)) rfl (by rw[HVE.out];exact SgO.err (by decide) HB9.out)
end Go.Proofs.YtaeobegaodhpcaaGreatDoor
