/-
  Envelopes: the walk of Sign (conditions: the table of constants reads as it is laid; slices.Insert at lists of this length answers as it should).
-/
import Derived.Test.YtaeobegaodhpcaaGreatDoorZip
import Derived.Test.YtaeobegaodhpcaaGreatDoorEnvH
set_option maxRecDepth 100000
set_option maxHeartbeats 8000000
namespace Go.Proofs.YtaeobegaodhpcaaGreatDoor
open Go.RowKit Go.Proofs.YtaeobegaodhpcaaGreatDoor.One
theorem CB (t:ByteArray) (sp:Option Addr) (n0 cap:Nat) (b:List UInt8) (sq:Option Addr) (m cq:Nat) (l:List Sg) (x:List Int) (h n:Int) (w:World) (ht:t.size≤maxLen) (hp:BSrc w w.heap.size sp n0 cap b) (hpn:sp=none→cap=0) (hl:SgsIn w w.heap.size sq m cq l) (hln:sq=none→cq=0) (hlt:∀ y ∈ l,y.n≤1000∧y.m≤1000) (hx:H16 x) (hins:InsN m) (hk:KayIn w) (hk0:4<w.heap.size) :
 Calls Tryz.prog 29 #[.agg (enA t (.slice sp n0 cap) (.slice sq m cq)),.agg (sgA x h n)] w (SgR (qN t b (l.map pg) x h n) w):=by
 have HP:=zh hp;have HPN:=zh hpn;have HL:=zh hl;have IH:=zh hlt;have HX:=zh hx;have HK:=zh hk;have HINS:=zh hins;have HLNN:=zh hln;clear hp hpn hl hlt hx hk hins hln;obtain⟨V,hV⟩:∃ V,qN t b (l.map pg) x h n=V:=⟨_,rfl⟩;rw[hV];have HV:=zh hV;clear hV;have HMO:=zh (kK t b);obtain⟨x1,h1,n1,l1,E,N,M,cl,pl,hS⟩:=tK x h n (fO t b) HX.out HMO.out;have HS:=zh hS;have HX1:=zh hS.hx;clear hS;have HT:=zh (SnF.new w (enA t (.slice sp n0 cap) (.slice sq m cq)) (sgA x h n));have HIE:=zh (aE t (.slice sp n0 cap) (.slice sq m cq))
 go_enter Tryz.func29,Tryz.ntmps29
 go_upto_region 1 with fail
 generalize hw0:World.alloc (World.alloc (World.alloc (World.alloc w _) _) _) _=w0;have HF0:Hid (SnF w (enA t (.slice sp n0 cap) (.slice sq m cq)) (sgA x h n) w0):=by rw[←hw0];exact HT.out
 clear hw0 HT;have HUP:Hid (∀ w',Below w.heap.size w w'→BSrc w' w'.heap.size sp n0 cap b∧SgsIn w' w'.heap.size sq m cq l∧KayIn w'∧4<w'.heap.size):=fun w' hb=>⟨(HP.out.below hb zl).more hb.size,HL.out.up hb zl,HK.out.below hb hk0,by have:=hb.size;omega⟩;have HCV:=zh (fI t sp n0 cap b sq m cq l w0 ht (HUP.out _ HF0.out.b).1 (HUP.out _ HF0.out.b).2.1 (HUP.out _ HF0.out.b).2.2.1 (HUP.out _ HF0.out.b).2.2.2)
 go_wp2_with (refine wpList_load_row rfl 25 _ rfl w.heap.size rfl 25 _ (0,0) _ HF0.out.e Tryz.underlying25 rfl HIE.out ?_)
 refine HCV.out.mono ?_;rintro e w1 ⟨rfl,hb⟩;have HF1:=zh (HF0.out.below hb);clear hb HCV HF0;have hbe:=fW;have hbs:=fF
 cases hvl:fM t b (l.map pg)
 ·have HVE:=zh (HV.out.symm.trans (SN hvl));clear hvl
  go_wp2_with (first
   | (refine wpList_store_row rfl 25 _ _ rfl (w.heap.size+1+1) zEn rfl rfl 25 _ HF1.out.y (aE _ _ _) rfl (bI _ _ _ _ _ _ _) ?_;generalize hw8:World.setRow w1 _ _=w8;have HY8:Hid (Ah w8 (w.heap.size+1+1) zEn 25):=(by rw[←hw8];exact setRow_heap _ _ _ _ _ _ HF1.out.y);have HZ8:Hid (Ah w8 (w.heap.size+1+1+1) (sgA bQ 0 0) 52):=(by rw[←hw8];exact (setRow_other _ _ _ _ zo).trans HF1.out.z);have HB8:Hid (Bw w w8):=(by rw[←hw8];exact below_setRow HF1.out.b zo _);clear hw8)
   | (refine wpList_store_row rfl 52 _ _ rfl (w.heap.size+1+1+1) (sgA bQ 0 0) rfl rfl 52 _ HZ8.out (aV aN) rfl (dR _ _ _) ?_;generalize hw9:World.setRow w8 _ _=w9;have HZ9:Hid (Ah w9 (w.heap.size+1+1+1) (sgA bQ 0 0) 52):=(by rw[←hw9];exact setRow_heap _ _ _ _ _ _ HZ8.out);have HY9:Hid (Ah w9 (w.heap.size+1+1) zEn 25):=(by rw[←hw9];exact (setRow_other _ _ _ _ zo).trans HY8.out);have HB9:Hid (Bw w w9):=(by rw[←hw9];exact below_setRow HB8.out zo _);clear hw9))
  exact bodyPost_ret (bA (P:=Tryz.prog) rfl _ _ (w.heap.size+1+1) (w.heap.size+1+1+1) 25 52 _ _ (0,0) (0,0) _ _ rfl HY9.out rfl HZ9.out Tryz.underlying25 rfl (aE _ _ _) Tryz.underlying52 rfl (aV aN)) rfl (by rw[HVE.out];exact SgR.err HB9.out)
 ·have HVL:=zh hvl;have h8:m≤8:=by have:=uT hvl;rw[List.length_map,HL.out.len] at this;exact this
  have YJ:=zh (uS (IY hvl));have hn0:n0≤100000000:=by
   have h1:=hvl;unfold fM at h1;simp only[Bool.and_eq_true,decide_eq_true_eq] at h1;have:=HP.out.len;omega
  clear hvl;go_wp2_with fail;obtain⟨B,hBe⟩:∃ B,B=w1.heap.size:=⟨_,rfl⟩;have sN:Hid (Blks B w1 w1 []):=Blks.start (Below.refl _ _) (Nat.le_of_eq hBe);have HLT:Hid (w.heap.size<B∧w.heap.size+1<B):=⟨by have:=HF1.out.k;omega,by have:=HF1.out.k;omega⟩;have aBh:Hid (w.heap.size+4≤B):=by show _≤_;have:=HF1.out.k;omega
  have NP:Hid (∀ w',Below B w1 w'→Below w.heap.size w w'):=fun w' hb=>HF1.out.b.trans (hb.mono (Nat.le_of_lt HLT.out.1));have HCM:Hid (∀ w',Below B w1 w'→Calls Tryz.prog 58 #[.string t,.slice sp n0 cap] w' fun e w''=>e=.returned (.agg (dgA (fO t b)))∧Below w'.heap.size w' w''):=fun w' hb=>rT t sp n0 cap b w' (HUP.out _ (NP.out _ hb)).1 (HUP.out _ (NP.out _ hb)).2.2.1 (HUP.out _ (NP.out _ hb)).2.2.2;have HCS:Hid (∀ w',Below B w1 w'→Calls Tryz.prog 57 #[.agg (sgL x h n).toArray,.agg (dgA (fO t b))] w' fun e w''=>∃ sp1 c1 sp2 c2,e=.returned (.tuple #[.agg (sgA x1 h1 n1),.agg (siA l1 (.slice sp1 N c1) (.slice sp2 M c2)),.int .i64 E])∧OwnHv w'' w'.heap.size (.slice sp1 N c1) cl∧OwnHv w'' w'.heap.size (.slice sp2 M c2) pl∧Below w'.heap.size w' w''):=fun w' hb=>HS.out.a w' (HUP.out _ (NP.out _ hb)).2.2.1 (HUP.out _ (NP.out _ hb)).2.2.2;clear hBe hbe hbs;generalize hMD:fO t b=d at *
  go_cut [7,8,9] (fun s7 s8 s9 wx=>∃ (ga gb:Nat) (sp1:Option Addr) (c1:Nat) (sp2:Option Addr) (c2:Nat),s7=.pointer (some ⟨ga,0,none⟩)∧s8=.pointer (some ⟨gb,0,none⟩)∧s9=.int .i64 E∧Hid (wx.heap[ga]? = some (.cells (sgA x1 h1 n1) 52 (0,0))∧wx.heap[gb]? = some (.cells (siA l1 (.slice sp1 N c1) (.slice sp2 M c2)) 48 (0,0))∧OwnHv wx B (.slice sp1 N c1) cl∧OwnHv wx B (.slice sp2 M c2) pl∧B≤ga∧B≤gb∧Below B w1 wx))
  case first =>
   clear HV HUP HP HPN HL IH HINS HLNN HVL h8 YJ hn0 HK HMO hMD NP HIE hk0 ht HS
   as_aux_lemma =>
    exact zT (p:=∀ (sp1:Option Addr) (c1:Nat) (sp2:Option Addr) (c2:Nat) (ga:Nat) (gb:Nat) (w:World),_→wpAnyH Tryz.prog _ _ _ _ _ _ _ w) (fun T0=>by
     exact zT (p:=∀ (sp1:Option Addr) (c1:Nat) (sp2:Option Addr) (c2:Nat) (ga:Nat) (w:World),_→wpAnyH Tryz.prog _ _ _ _ _ _ _ w) (fun T1=>by
      exact zT (p:=∀ (sp1:Option Addr) (c1:Nat) (sp2:Option Addr) (c2:Nat) (gb:Nat) (w:World),_→wpAnyH Tryz.prog _ _ _ _ _ _ _ w) (fun T2=>by
       exact zT (p:=∀ (ga:Nat) (gb:Nat) (w:World),_→wpAnyH Tryz.prog _ _ _ _ _ _ _ w) (fun T3=>by
        exact zT (p:=∀ (ga:Nat) (w:World),_→wpAnyH Tryz.prog _ _ _ _ _ _ _ w) (fun T4=>by
         exact zT (p:=∀ (gb:Nat) (w:World),_→wpAnyH Tryz.prog _ _ _ _ _ _ _ w) (fun T5=>by
          exact zT (p:=∀ (ga:Nat) (gb:Nat) (w:World),_→wpAnyH Tryz.prog _ _ _ _ _ _ _ w) (fun T6=>by
           refine wp_region_held_drew (S:=fun w'=>Below B w1 w') (by kernel_rfl) sN.out.b.drew (fun hHeld=>?_);refine' zk 0 rfl (v:=_) (yieldsIf_load_mid (by rfl) _ _ rfl _ _ rfl _ _ ?hS0n1 Tryz.underlying52 rfl (jI HX.out)) ?rest0n1
           case hS0n1 =>
            intro w' hSw;exact bC (L:=sgL x h n) ((hSw.block _ HLT.out.2).trans HF1.out.s)
           try simp only[Act.put,zu]
           refine zv 1 rfl ?_;refine zx 2 rfl (v:=?_) ?_ ?_;rotate_left
           ·intro w' hSw;have c0:=IM ((hSw.block _ HLT.out.1).trans HF1.out.e);go_simp;try with_reducible rfl
           refine zv 3 rfl ?_;refine zx 4 rfl (v:=?_) ?_ ?_;rotate_left
           ·intro w' hSw;have c0:=qU ((hSw.block _ HLT.out.1).trans HF1.out.e);go_simp;try with_reducible rfl
           refine wpAnyH_ready (rs:=[5,11,12]) (by kernel_rfl) (by simp) (AllReadyH.cons (o:=_) rfl (fun K hK=>?_) (AllReadyH.cons (o:=_) rfl (fun K hK=>?_) (AllReadyH.cons (o:=_) rfl (fun K hK=>?_) AllReadyH.nil)))
           ·go_simp
            with_reducible refine (HCM.out _ (sN.out.drew).b).mono ?_
            rintro e v1 ⟨rfl,hb⟩;have cA:=zh (sN.out.call ((Below.refl _ _).drew.trans hb));clear hb;go_wp2_with fail;refine hK.out _ _ cA.out.b fun _=>?_;clear hK K;refine wpAnyH_ready (rs:=[6,11,12]) (by kernel_rfl) (by simp) (AllReadyH.cons (o:=_) rfl (fun K hK=>?_) (AllReadyH.cons (o:=_) rfl (fun K hK=>?_) (AllReadyH.cons (o:=_) rfl (fun K hK=>?_) AllReadyH.nil)))
            ·go_simp
             with_reducible refine (HCS.out _ (cA.out).b).mono ?_
             rintro e v2 ⟨sp1,c1,sp2,c2,rfl,hoc,hop,hb⟩;have bJ:=zh (cA.out.call hb);have NW:=zh (hoc.base (cA.out.k));have NU:=zh (hop.base (cA.out.k));clear hb;go_wp2_with fail;refine hK.out _ _ bJ.out.b fun _=>?_;clear hK K;refine zv 7 rfl ?_;refine zv 8 rfl ?_;refine zv 9 rfl ?_;refine zv 10 rfl ?_;refine zs 11 12 rfl (fun K hK=>?_) rfl (fun K hK=>?_)
             ·obtain⟨ga,v3,hg,hw,dN,HEv3⟩:=bJ.out.allocd (.cells (sgA bQ 0 0) 52 (0,0));go_simp
              try rw[hg]
              generalize hq:World.alloc v2 _=q;obtain rfl:v3=q:=hw.symm.trans hq;clear hg hw hq;have CO:=zh (NW.out.below HEv3.out);have CN:=zh (NU.out.below HEv3.out);refine hK.out _ _ dN.out.b fun _=>?_;clear hK K
              try simp only[Act.put,zu]
              exact T1 sp1 c1 sp2 c2 ga v3 (And.intro (zh (dN.out)) (And.intro CO CN))
             ·obtain⟨gb,v3,hg,hw,dN,HEv3⟩:=bJ.out.allocd (.cells (siA 0 aH aH) 48 (0,0));go_simp
              try rw[hg]
              generalize hq:World.alloc v2 _=q;obtain rfl:v3=q:=hw.symm.trans hq;clear hg hw hq;have CO:=zh (NW.out.below HEv3.out);have CN:=zh (NU.out.below HEv3.out);refine hK.out _ _ dN.out.b fun _=>?_;clear hK K
              try simp only[Act.put,zu]
              exact T2 sp1 c1 sp2 c2 gb v3 (And.intro (zh (dN.out)) (And.intro CO CN))
            ·obtain⟨ga,v2,hg,hw,bJ,hU⟩:=cA.out.allocd (.cells (sgA bQ 0 0) 52 (0,0));go_simp
             try rw[hg]
             generalize hq:World.alloc v1 _=q;obtain rfl:v2=q:=hw.symm.trans hq;clear hg hw hq;refine hK.out _ _ bJ.out.b fun _=>?_;clear hK K
             try simp only[Act.put,zu]
             exact T4 ga v2 (zh (bJ.out))
            ·obtain⟨gb,v2,hg,hw,bJ,hU⟩:=cA.out.allocd (.cells (siA 0 aH aH) 48 (0,0));go_simp
             try rw[hg]
             generalize hq:World.alloc v1 _=q;obtain rfl:v2=q:=hw.symm.trans hq;clear hg hw hq;refine hK.out _ _ bJ.out.b fun _=>?_;clear hK K
             try simp only[Act.put,zu]
             exact T5 gb v2 (zh (bJ.out))
           ·obtain⟨ga,v1,hg,hw,cA,qB⟩:=sN.out.allocdD (.cells (sgA bQ 0 0) 52 (0,0));go_simp
            try rw[hg]
            generalize hq:World.drew (World.alloc w1 _)=q;obtain rfl:v1=q:=hw.symm.trans hq;clear hg hw hq;refine hK.out _ _ cA.out.b fun _=>?_;clear hK K;refine zs 5 12 rfl (fun K hK=>?_) rfl (fun K hK=>?_)
            ·go_simp
             with_reducible refine (HCM.out _ (cA.out).b).mono ?_
             rintro e v2 ⟨rfl,hb⟩;have bJ:=zh (cA.out.call hb);clear hb;go_wp2_with fail;refine hK.out _ _ bJ.out.b fun _=>?_;clear hK K
             try simp only[Act.put,zu]
             exact T4 ga v2 (zh (bJ.out))
            ·obtain⟨gb,v2,hg,hw,bJ,hU⟩:=cA.out.allocd (.cells (siA 0 aH aH) 48 (0,0));go_simp
             try rw[hg]
             generalize hq:World.alloc v1 _=q;obtain rfl:v2=q:=hw.symm.trans hq;clear hg hw hq;refine hK.out _ _ bJ.out.b fun _=>?_;clear hK K
             try simp only[Act.put,zu]
             exact T6 ga gb v2 (zh (bJ.out.p2))
           ·obtain⟨gb,v1,hg,hw,cA,qB⟩:=sN.out.allocdD (.cells (siA 0 aH aH) 48 (0,0));go_simp
            try rw[hg]
            generalize hq:World.drew (World.alloc w1 _)=q;obtain rfl:v1=q:=hw.symm.trans hq;clear hg hw hq;refine hK.out _ _ cA.out.b fun _=>?_;clear hK K;refine zs 5 11 rfl (fun K hK=>?_) rfl (fun K hK=>?_)
            ·go_simp
             with_reducible refine (HCM.out _ (cA.out).b).mono ?_
             rintro e v2 ⟨rfl,hb⟩;have bJ:=zh (cA.out.call hb);clear hb;go_wp2_with fail;refine hK.out _ _ bJ.out.b fun _=>?_;clear hK K
             try simp only[Act.put,zu]
             exact T5 gb v2 (zh (bJ.out))
            ·obtain⟨ga,v2,hg,hw,bJ,hU⟩:=cA.out.allocd (.cells (sgA bQ 0 0) 52 (0,0));go_simp
             try rw[hg]
             generalize hq:World.alloc v1 _=q;obtain rfl:v2=q:=hw.symm.trans hq;clear hg hw hq;refine hK.out _ _ bJ.out.b fun _=>?_;clear hK K
             try simp only[Act.put,zu]
             exact T6 ga gb v2 (zh (bJ.out))) (by
           intro ga gb u6 HSu6;refine zr 5 rfl (fun K hK=>?_);go_simp
           with_reducible refine (HCM.out _ (HSu6.out).b).mono ?_
           rintro e v1601 ⟨rfl,hb⟩;have kV:=zh (HSu6.out.call hb);clear hb;go_wp2_with fail;refine hK.out _ _ kV.out.b fun _=>?_;clear hK K
           try simp only[Act.put,zu]
           exact T3 ga gb v1601 (zh (kV.out)))) (by
          intro gb u5 HSu5;refine zs 6 11 rfl (fun K hK=>?_) rfl (fun K hK=>?_)
          ·go_simp
           with_reducible refine (HCS.out _ (HSu5.out).b).mono ?_
           rintro e v1501 ⟨sp1,c1,sp2,c2,rfl,hoc,hop,hb⟩;have dX:=zh (HSu5.out.call hb);have wT:=zh (hoc.base (HSu5.out.k));have wN:=zh (hop.base (HSu5.out.k));clear hb;go_wp2_with fail;refine hK.out _ _ dX.out.b fun _=>?_;clear hK K;refine zv 7 rfl ?_;refine zv 8 rfl ?_;refine zv 9 rfl ?_;refine zv 10 rfl ?_
           try simp only[Act.put,zu]
           exact T2 sp1 c1 sp2 c2 gb v1501 (And.intro (zh (dX.out)) (And.intro wT wN))
          ·obtain⟨ga,v1501,hg,hw,dX,HEv1501⟩:=HSu5.out.allocd (.cells (sgA bQ 0 0) 52 (0,0));go_simp
           try rw[hg]
           generalize hq:World.alloc u5 _=q;obtain rfl:v1501=q:=hw.symm.trans hq;clear hg hw hq;refine hK.out _ _ dX.out.b fun _=>?_;clear hK K
           try simp only[Act.put,zu]
           exact T3 ga gb v1501 (zh (dX.out)))) (by
         intro ga u4 HSu4;refine zs 6 12 rfl (fun K hK=>?_) rfl (fun K hK=>?_)
         ·go_simp
          with_reducible refine (HCS.out _ (HSu4.out).b).mono ?_
          rintro e v1401 ⟨sp1,c1,sp2,c2,rfl,hoc,hop,hb⟩;have dY:=zh (HSu4.out.call hb);have wU:=zh (hoc.base (HSu4.out.k));have wO:=zh (hop.base (HSu4.out.k));clear hb;go_wp2_with fail;refine hK.out _ _ dY.out.b fun _=>?_;clear hK K;refine zv 7 rfl ?_;refine zv 8 rfl ?_;refine zv 9 rfl ?_;refine zv 10 rfl ?_
          try simp only[Act.put,zu]
          exact T1 sp1 c1 sp2 c2 ga v1401 (And.intro (zh (dY.out)) (And.intro wU wO))
         ·obtain⟨gb,v1401,hg,hw,dY,HEv1401⟩:=HSu4.out.allocd (.cells (siA 0 aH aH) 48 (0,0));go_simp
          try rw[hg]
          generalize hq:World.alloc u4 _=q;obtain rfl:v1401=q:=hw.symm.trans hq;clear hg hw hq;refine hK.out _ _ dY.out.b fun _=>?_;clear hK K
          try simp only[Act.put,zu]
          exact T3 ga gb v1401 (zh (dY.out.p2)))) (by
        intro ga gb u3 HSu3;refine zr 6 rfl (fun K hK=>?_);go_simp
        with_reducible refine (HCS.out _ (HSu3.out).b).mono ?_
        rintro e v1301 ⟨sp1,c1,sp2,c2,rfl,hoc,hop,hb⟩;have gM:=zh (HSu3.out.call hb);have wV:=zh (hoc.base (HSu3.out.k));have wP:=zh (hop.base (HSu3.out.k));clear hb;go_wp2_with fail;refine hK.out _ _ gM.out.b fun _=>?_;clear hK K;refine zv 7 rfl ?_;refine zv 8 rfl ?_;refine zv 9 rfl ?_;refine zv 10 rfl ?_
        try simp only[Act.put,zu]
        exact T0 sp1 c1 sp2 c2 ga gb v1301 (And.intro (zh (gM.out)) (And.intro wV wP)))) (by
       intro sp1 c1 sp2 c2 gb u2 ⟨HSu2,HOCu2,HOPu2⟩;refine zr 11 rfl (fun K hK=>?_);obtain⟨ga,v1201,hg,hw,HSv1201,HEv1201⟩:=HSu2.out.allocd (.cells (sgA bQ 0 0) 52 (0,0));go_simp
       try rw[hg]
       generalize hq:World.alloc u2 _=q;obtain rfl:v1201=q:=hw.symm.trans hq;clear hg hw hq;have wW:=zh (HOCu2.out.below HEv1201.out);have wQ:=zh (HOPu2.out.below HEv1201.out);refine hK.out _ _ HSv1201.out.b fun _=>?_;clear hK K
       try simp only[Act.put,zu]
       exact T0 sp1 c1 sp2 c2 ga gb v1201 (And.intro (zh (HSv1201.out)) (And.intro wW wQ)))) (by
      intro sp1 c1 sp2 c2 ga u1 ⟨HSu1,HOCu1,HOPu1⟩;refine zr 12 rfl (fun K hK=>?_);obtain⟨gb,v1101,hg,hw,HSv1101,HEv1101⟩:=HSu1.out.allocd (.cells (siA 0 aH aH) 48 (0,0));go_simp
      try rw[hg]
      generalize hq:World.alloc u1 _=q;obtain rfl:v1101=q:=hw.symm.trans hq;clear hg hw hq;have wX:=zh (HOCu1.out.below HEv1101.out);have wR:=zh (HOPu1.out.below HEv1101.out);refine hK.out _ _ HSv1101.out.b fun _=>?_;clear hK K
      try simp only[Act.put,zu]
      exact T0 sp1 c1 sp2 c2 ga gb v1101 (And.intro (zh (HSv1101.out.p2)) (And.intro wX wR)))) (by
     intro sp1 c1 sp2 c2 ga gb u0 ⟨HSu0,HOCu0,HOPu0⟩;refine zr 13 rfl (fun K hK=>?_);rw[if_pos (by rfl)];refine wp_store_row 52 _ _ rfl ga (sgA x1 h1 n1) rfl rfl 52 _ (HSu0.out.at 0 rfl) (aV HX1.out) (by rw[dD aN,dD HX1.out]) (dR _ _ _) ?_;generalize hw:World.setRow u0 _ _=v1001;have cJ:=zh (HSu0.out.set 0 rfl (sgA x1 h1 n1));rw[hw] at cJ;have oB:=zh (HOCu0.out.setRow (HSu0.out.at 0 rfl) (by decide) (sgA x1 h1 n1));rw[hw] at oB;have nZ:=zh (HOPu0.out.setRow (HSu0.out.at 0 rfl) (by decide) (sgA x1 h1 n1));rw[hw] at nZ;clear hw;refine hK.out _ _ cJ.out.b fun _=>?_;clear hK K;refine zr 14 rfl (fun K hK=>?_);rw[if_pos (by rfl)];refine wp_store_row 48 _ _ rfl gb (siA l1 (.slice sp1 N c1) (.slice sp2 M c2)) rfl rfl 48 _ (cJ.out.at 1 rfl) (aL _ _ _) rfl (cO _ _ _ _ _ _ _) ?_;generalize hw:World.setRow v1001 _ _=v1002;have bY:=zh (cJ.out.set 1 rfl (siA l1 (.slice sp1 N c1) (.slice sp2 M c2)));rw[hw] at bY;have oA:=zh (oB.out.setRow (cJ.out.at 1 rfl) (by decide) (siA l1 (.slice sp1 N c1) (.slice sp2 M c2)));rw[hw] at oA;have nY:=zh (nZ.out.setRow (cJ.out.at 1 rfl) (by decide) (siA l1 (.slice sp1 N c1) (.slice sp2 M c2)));rw[hw] at nY;clear hw;refine hK.out _ _ bY.out.b fun _=>?_;clear hK K;refine zv 15 rfl ?_;refine zd ?_ _;go_wp2_with fail;go_meet;exact⟨ga,gb,sp1,c1,sp2,c2,rfl,rfl,rfl,bY.out.at 0 rfl,bY.out.at 1 rfl,oA.out,nY.out,(bY.out.lt 0 rfl).1,(bY.out.lt 1 rfl).1,bY.out.b⟩)
  case rest =>
  obtain⟨ga,gb,sp1,c1,sp2,c2,rfl,rfl,rfl,HC1⟩:=hcut;have HFc:=zh (HF1.out.belowB HC1.out.2.2.2.2.2.2 aBh.out);have HGA:=zh HC1.out.1;have HGB:=zh HC1.out.2.1;have HOC:=zh HC1.out.2.2.1;have HOP:=zh HC1.out.2.2.2.1;have hga:=HC1.out.2.2.2.2.1;have hgb:=HC1.out.2.2.2.2.2.1;have hBk:=aBh.out;have hgal:=(Array.getElem?_eq_some_iff.1 HGA.out).1;have hgbl:=(Array.getElem?_eq_some_iff.1 HGB.out).1;clear HC1 HCM HCS sN HF1 NP;have hbe:=fW;have hbs:=fF;rcases HS.out.k with ⟨hE,rfl,rfl,rfl⟩ | ⟨rfl,hk,leaf,rfl,rfl,hk6,hlf,rfl,rfl,rfl,rfl,rfl,rfl,rfl,rfl⟩
  ·have HVE:Hid (V=ED E):=by
    have:=SM (x:=x) HVL.out (show sgE h n≠0 by rw[←HS.out.e];exact hE);rw[HV.out] at this;rw[HS.out.e];exact this
   have hq:(E == 0)=false:=by simpa using hE
   clear hE
   go_wp2_with (first
    | (refine wpList_store_row rfl 25 _ _ rfl (w.heap.size+1+1) zEn rfl rfl 25 _ HFc.out.y (aE _ _ _) rfl (bI _ _ _ _ _ _ _) ?_;generalize hw8:World.setRow wc _ _=w8;have HY8:Hid (Ah w8 (w.heap.size+1+1) zEn 25):=(by rw[←hw8];exact setRow_heap _ _ _ _ _ _ HFc.out.y);have HZ8:Hid (Ah w8 (w.heap.size+1+1+1) (sgA bQ 0 0) 52):=(by rw[←hw8];exact (setRow_other _ _ _ _ zo).trans HFc.out.z);have HB8:Hid (Bw w w8):=(by rw[←hw8];exact below_setRow HFc.out.b zo _);clear hw8)
    | (refine wpList_store_row rfl 52 _ _ rfl (w.heap.size+1+1+1) (sgA bQ 0 0) rfl rfl 52 _ HZ8.out (aV aN) rfl (dR _ _ _) ?_;generalize hw9:World.setRow w8 _ _=w9;have HZ9:Hid (Ah w9 (w.heap.size+1+1+1) (sgA bQ 0 0) 52):=(by rw[←hw9];exact setRow_heap _ _ _ _ _ _ HZ8.out);have HY9:Hid (Ah w9 (w.heap.size+1+1) zEn 25):=(by rw[←hw9];exact (setRow_other _ _ _ _ zo).trans HY8.out);have HB9:Hid (Bw w w9):=(by rw[←hw9];exact below_setRow HB8.out zo _);clear hw9))
   exact bodyPost_ret (bA (P:=Tryz.prog) rfl _ _ (w.heap.size+1+1) (w.heap.size+1+1+1) 25 52 _ _ (0,0) (0,0) _ _ rfl HY9.out rfl HZ9.out Tryz.underlying25 rfl (aE _ _ _) Tryz.underlying52 rfl (aV aN)) rfl (by rw[HVE.out];exact SgR.err HB9.out)
  ·-- MARKOK
   have HE0:=zh (HS.out.e.symm);have aBf:Hid (mF x (hk:Int) (leaf:Int) d=⟨hk,iR x hk 0,leaf,jA x leaf d,eP x hk leaf⟩):=by show _=_;unfold mF;rw[Int.toNat_natCast,Int.toNat_natCast]
   clear HS hbe hbs;have cH:=IK HX.out HFc.out.s;have HXS:=zh (YG HFc.out.s);have HIX:=zh (bS HX.out);have HUPC:=zh (HUP.out _ HFc.out.b);have HCN:=zh (VI x hk wc HX.out hk6 HUPC.out.2.2.1 HUPC.out.2.2.2)
   go_wp2_with (refine wpList_load_mid rfl 42 _ rfl (w.heap.size+1) 0 rfl _ _ HXS.out Tryz.underlying42 rfl HIX.out ?_)
   refine HCN.out.mono ?_;rintro e w2 ⟨rfl,hb⟩;have HB2:=zh hb;clear hb cH HCN HXS HUPC;have HNK:=zh (fR x hk 0);generalize hr:iR x hk 0=r at *;have HRE:=zh hr;clear hr;have HZP:=zh (PkRow.new w2 0 bQ);have HRP:=zh (PkRow.new w2 hk r)
   go_upto_region 7 with (refine wpList_store_row rfl 44 _ _ rfl w2.heap.size _ rfl rfl 44 _ HZP.out.k (dS HNK.out) (by rw[jF HNK.out];rfl) (DJ _ _) ?_;rw[aK];generalize hw3:World.alloc w2 _=w3;have HP3:Hid (PkRow w2 hk r w3):=(by rw[←hw3];exact HRP.out);clear hw3 HZP HRP)
   have HB3:=zh (HB2.out.trans (HP3.out.b.mono HB2.out.size));have HGB3:=zh ((HB3.out.block _ hgbl).trans HGB.out);have hs2:=HB2.out.size;obtain⟨X,hX⟩:∃ X:Sg,X=⟨hk,r,leaf,sp1,68,c1,jA x leaf d,sp2,hk,c2,eP x hk leaf⟩:=⟨_,rfl⟩;have HXO:Hid (OkG X):=by rw[hX];exact HNK.out
   have HXP:Hid (pg X=mF x hk leaf d):=by rw[hX,aBf.out];rfl
   have HXT:Hid (SgT wc B X):=by rw[hX];exact⟨HNK.out,HOC.out,HOP.out,lB _ _ _,iQ _ _ _⟩
   have HBX:Hid (∀ w',(Instr.build 50 #[(0,.agg (pkA (hk:Int) r)),(1,.agg (siA (leaf:Int) (.slice sp1 68 c1) (.slice sp2 hk c2)))]).run Tryz.prog w'=.ok (.agg (aX X).toArray) w'):=fun w'=>by have h:=ER (⟨hk,r,leaf,sp1,68,c1,jA x leaf d,sp2,hk,c2,eP x hk leaf⟩:Sg) HNK.out w';rw[hX];exact h
   clear hX aBf HRE;have HZG:=zh (heap_alloc_new w3 (.cells zG.toArray 50))
   go_upto_region 8 with (first
    | (refine wpList_load_row rfl 44 _ rfl w2.heap.size rfl 44 _ (0,0) _ HP3.out.k Tryz.underlying44 rfl (dS HNK.out) ?_)
    | (refine wpList_load_row rfl 48 _ rfl gb rfl 48 _ (0,0) _ HGB3.out Tryz.underlying48 rfl (aL _ _ _) ?_)
    | (refine bB rfl 50 [(0,.tmp 45),(1,.tmp 46)] rfl [(0,.agg (pkA (hk:Int) r)),(1,.agg (siA (leaf:Int) (.slice sp1 68 c1) (.slice sp2 hk c2)))] rfl _ (HBX.out _) ?_)
    | (refine wpList_store_row rfl 50 _ _ rfl w3.heap.size _ rfl rfl 50 _ HZG.out (aS HXO.out) (bR HXO.out) (bG X) ?_;rw[aK];generalize hw4:World.alloc w3 _=w4;have HG4:Hid (GB w4 w3.heap.size X):=(by rw[←hw4];exact GB.new w3 X);have HB34:Hid (Below w3.heap.size w3 w4):=(by rw[←hw4];exact aA _ _);have hs4:w3.heap.size<w4.heap.size:=(by rw[←hw4];simp);clear hw4))
   obtain⟨gx,hgx⟩:∃ gx,gx=w3.heap.size:=⟨_,rfl⟩;rw[←hgx];have HG4':Hid (GB w4 gx X):=by rw[hgx];exact HG4.out
   have hgx4:gx<w4.heap.size:=by omega
   have hgxc:wc.heap.size≤gx:=by have:=HB3.out.size;omega
   clear HG4 HZG HBX HGB3 HP3 HGB;have HB4:=zh (HB3.out.trans (HB34.out.mono HB3.out.size));have HF4:=zh (HFc.out.below HB4.out);have HUP4:=zh (HUP.out _ HF4.out.b);clear hgx HB34 HB3 hs4 HB2 hs2;have cS:=iW HF4.out.e;have HCP:=zh (KS sq m cq l X w4 HUP4.out.2.1 YJ.out HXO.out zo HUP4.out.2.2.1 HUP4.out.2.2.2)
   go_wp2_with (refine wpList_load_row rfl 50 _ rfl gx rfl 50 _ (0,0) _ HG4'.out Tryz.underlying50 rfl (aS HXO.out) ?_)
   refine HCP.out.mono ?_;rintro e w5 ⟨k,hkm,rfl,hlo,hhi,hb⟩;have HB5:Hid (Bw w4 w5):=hb;have HF5:=zh (HF4.out.below hb);have HFH:=zh (WA YJ.out hlo hhi);have HIA:=zh (LR (by rw[List.length_map,HL.out.len];exact hkm) hlo hhi);clear hb hlo hhi HCP cS HUP4;rw[HXP.out] at HFH HIA;rw[HXP.out,HFH.out];have HG5:=zh (HG4'.out.below HB5.out hgx4);have hgx5:gx<w5.heap.size:=by have:=HB5.out.size;omega
   have SB:=zh (HB4.out.trans (HB5.out.mono HB4.out.size));clear HB5 HG4' HFH HF4 HB4 hgx4;have hbe:=fW;have hbs:=fF;have cS:=iW HF5.out.e;have hlm:(l.map pg).length=m:=by rw[List.length_map];exact HL.out.len
   have HLM:=zh hlm;clear hlm
   cases hhas:AJ (l.map pg) (mF x hk leaf d)
   ·have aBk:=zh hhas;clear hhas;by_cases h8e:m=8
    ·have HVE:Hid (V=ED 3):=by
      have:=SL (x:=x) HVL.out HE0.out (by rw[hMD];exact aBk.out) (by rw[HLM.out];exact h8e);rw[HV.out] at this;exact this
     have hq:((m:Int) == 8)=true:=by rw[h8e];rfl
     go_wp2_with (first
      | (refine wpList_store_row rfl 25 _ _ rfl (w.heap.size+1+1) zEn rfl rfl 25 _ HF5.out.y (aE _ _ _) rfl (bI _ _ _ _ _ _ _) ?_;generalize hw8:World.setRow w5 _ _=w8;have HY8:Hid (Ah w8 (w.heap.size+1+1) zEn 25):=(by rw[←hw8];exact setRow_heap _ _ _ _ _ _ HF5.out.y);have HZ8:Hid (Ah w8 (w.heap.size+1+1+1) (sgA bQ 0 0) 52):=(by rw[←hw8];exact (setRow_other _ _ _ _ zo).trans HF5.out.z);have HB8:Hid (Bw w w8):=(by rw[←hw8];exact below_setRow HF5.out.b zo _);clear hw8)
      | (refine wpList_store_row rfl 52 _ _ rfl (w.heap.size+1+1+1) (sgA bQ 0 0) rfl rfl 52 _ HZ8.out (aV aN) rfl (dR _ _ _) ?_;generalize hw9:World.setRow w8 _ _=w9;have HZ9:Hid (Ah w9 (w.heap.size+1+1+1) (sgA bQ 0 0) 52):=(by rw[←hw9];exact setRow_heap _ _ _ _ _ _ HZ8.out);have HY9:Hid (Ah w9 (w.heap.size+1+1) zEn 25):=(by rw[←hw9];exact (setRow_other _ _ _ _ zo).trans HY8.out);have HB9:Hid (Bw w w9):=(by rw[←hw9];exact below_setRow HB8.out zo _);clear hw9))
     exact bodyPost_ret (bA (P:=Tryz.prog) rfl _ _ (w.heap.size+1+1) (w.heap.size+1+1+1) 25 52 _ _ (0,0) (0,0) _ _ rfl HY9.out rfl HZ9.out Tryz.underlying25 rfl (aE _ _ _) Tryz.underlying52 rfl (aV aN)) rfl (by rw[HVE.out];exact SgR.err HB9.out)
    ·have HVE:Hid (V=⟨0,t,b,sR (l.map pg) (mF x hk leaf d),x,hk,leaf+1⟩):=by
      have:=JZ (x:=x) HVL.out HE0.out (by rw[hMD];exact aBk.out) (by rw[HLM.out];exact h8e);rw[HV.out,hMD] at this;exact this
     have hq:((m:Int) == 8)=false:=by simp;omega
     clear hbe hbs;have aAq:=zh (HUP.out _ HF5.out.b);have HCL:=zh (NB t sp n0 cap b sq m cq l w5 aAq.out.1 HPN.out hn0 aAq.out.2.1 zo IH.out);have hBc:B≤wc.heap.size:=by omega
     have hBk5:w.heap.size+4≤w5.heap.size:=HF5.out.k;have hc5:=SB.out.size
     go_wp2_with (refine wpList_load_row rfl 25 _ rfl w.heap.size rfl 25 _ (0,0) _ HF5.out.e Tryz.underlying25 rfl HIE.out ?_)
     refine HCL.out.mono ?_;rintro e w6 ⟨sp6,cap6,sq6,cq6,l6,rfl,HOB6,HOG6,HLP6,HST6,hb⟩;have HB6:Hid (Bw w5 w6):=hb;clear hb HCL cS;have hs6:=HB6.out.size;have HZE:=zh (heap_alloc_new w6 (.cells zEn 25))
     go_upto_region 14 with (refine wpList_store_row rfl 25 _ _ rfl w6.heap.size (enA t (.slice sp6 n0 cap6) (.slice sq6 m cq6)) rfl rfl 25 _ HZE.out (aE _ _ _) rfl (bI _ _ _ _ _ _ _) ?_;rw[aK];generalize hw7:World.alloc w6 _=w7;have HE7:Hid (w7.heap[w6.heap.size]? = some (.cells (enA t (.slice sp6 n0 cap6) (.slice sq6 m cq6)) 25 (0,0))):=(by rw[←hw7];exact heap_alloc_new _ _);have HB7:Hid (Below w6.heap.size w6 w7):=(by rw[←hw7];exact aA _ _);have hs7:w6.heap.size<w7.heap.size:=(by rw[←hw7];simp);clear hw7 HZE)
     obtain⟨go,hgo⟩:∃ go,go=w6.heap.size:=⟨_,rfl⟩;rw[←hgo];have HE7':Hid (w7.heap[go]? = some (.cells (enA t (.slice sp6 n0 cap6) (.slice sq6 m cq6)) 25 (0,0))):=by rw[hgo];exact HE7.out
     have hgo7:go<w7.heap.size∧w5.heap.size≤go:=by omega
     have HGO:Hid (w6.heap.size≤go):=Nat.le_of_eq hgo.symm;clear HE7 hgo;have HB57:=zh (HB6.out.trans (HB7.out.mono hs6));have HOB7:=zh (HOB6.out.below HB7.out);have HOG7:=zh (HOG6.out.below HB7.out);have HST7:Hid (∀ y ∈ l6,SgT w7 w5.heap.size y):=fun y hy=>(HST6.out y hy).below HB7.out;have HG7:=zh (HG5.out.below HB57.out hgx5);have HXT7:=zh ((HXT.out.below SB.out).below HB57.out);have HL6:Hid (l6.length=m):=by have h:=congrArg List.length HLP6.out;rw[List.length_map,List.length_map,HL.out.len] at h;exact h
     have CM:Hid (∀ j,(Value.slice sq6 m cq6).ownBlock=some j→j<go):=fun j hj=>Nat.lt_of_lt_of_le (HOG6.out.1.lt j hj).2 HGO.out;have cS7:=iW HE7'.out;clear HOB6 HOG6 HST6 HG5
     go_wp2_with (first
      | (refine wpList_load_row rfl 50 _ rfl gx rfl 50 _ (0,0) _ HG7.out Tryz.underlying50 rfl (aS HXO.out) ?_)
      | (refine aT rfl 23 1 [(0,.tmp 71)] rfl [(0,.agg (aX X).toArray)] rfl _ _ (rH _ X HXO.out) ?_;generalize hw8:World.alloc w7 _=w8;have HG8:Hid (GB w8 w7.heap.size X):=(by rw[←hw8];exact GB.new w7 X);have HB8:Hid (Below w7.heap.size w7 w8):=(by rw[←hw8];exact aA _ _);have hs8:w7.heap.size<w8.heap.size:=(by rw[←hw8];simp);clear hw8))
     clear cS7;have HE8:=zh ((HB8.out.block _ hgo7.1).trans HE7'.out);have HOB8:=zh (HOB7.out.below HB8.out);have aBd:=zh (HOG7.out.below HB8.out);have HST8:Hid (∀ y ∈ l6,SgT w8 w5.heap.size y):=fun y hy=>(HST7.out y hy).below HB8.out;have HXT8:=zh (HXT7.out.below HB8.out);have HB58:Hid (Bw w5 w8):=HB57.out.trans (HB8.out.mono zo);refine (HINS.out k l6 X w8 w5.heap.size sq6 cq6 w7.heap.size hkm HL6.out zo aBd.out HG8.out HXO.out zo (fun j hj=>by have:=CM.out j hj;omega)).mono ?_;rintro e w9 ⟨sp9,cap9,rfl,HO9,hb9,HGR⟩;have HB9:Hid (Below w5.heap.size w8 w9):=hb9;clear hb9;have HE9:Hid (Ah w9 go (enA t (.slice sp6 n0 cap6) (.slice sq6 m cq6)) 25):=(HGR.out.block _ zo (fun e=>by have:=CM.out _ e.symm;omega)).trans HE8.out;have HOB9:Hid (OwnBy w9 w5.heap.size (.slice sp6 n0 cap6) b):=World.ownsRow.kept HOB8.out HGR.out (BJ HOB8.out aBd.out.1 (by decide));have HST9:Hid (∀ y ∈ l6,SgT w9 w5.heap.size y):=fun y hy=>(HST8.out y hy).grown aBd.out HGR.out;have aAp:=zh (HXT8.out.grown aBd.out HGR.out);have HB59:=zh (HB58.out.trans HB9.out);have cS9:=iW HE9.out;have fS9:=frozen_of_row _ _ 2 _ _ HE9.out;have aBn:Hid ((w9.setCell ⟨go,2,none⟩ (.slice sp9 (m+1) cap9)).heap[go]? = some (.cells (enA t (.slice sp6 n0 cap6) (.slice sp9 (m+1) cap9)) 25 (0,0))):=by
      have h:=heap_setCell_same w9 go 2 _ _ (.slice sp9 (m+1) cap9) HE9.out;rw[uC] at h;exact h
     have HO10:Hid (OwnG (w9.setCell ⟨go,2,none⟩ (.slice sp9 (m+1) cap9)) w5.heap.size (.slice sp9 (m+1) cap9) (l6.take k++X :: l6.drop k)):=⟨World.ownsRow.kept HO9.out.1 (aY _ _ _ _) (cN HO9.out.1 HE9.out (by decide)),HO9.out.2⟩;have HOB10:Hid (OwnBy (w9.setCell ⟨go,2,none⟩ (.slice sp9 (m+1) cap9)) w5.heap.size (.slice sp6 n0 cap6) b):=World.ownsRow.kept HOB9.out (aY _ _ _ _) (cN HOB9.out HE9.out (by decide));have HST10:Hid (∀ y ∈ l6,SgT (w9.setCell ⟨go,2,none⟩ (.slice sp9 (m+1) cap9)) w5.heap.size y):=fun y hy=>(HST9.out y hy).setCell HE9.out oQ _ _;have XE:Hid (SgT (w9.setCell ⟨go,2,none⟩ (.slice sp9 (m+1) cap9)) B X):=aAp.out.setCell HE9.out oQ _ _;have aBy:Hid (Below w5.heap.size w5 (w9.setCell ⟨go,2,none⟩ (.slice sp9 (m+1) cap9))):=HB59.out.setCell (p:=⟨go,2,none⟩) hgo7.2 _
     go_upto_region 15 with fail
     generalize World.setCell w9 _ _=wA at *;clear cS9 fS9 HE9 HO9 HOB9 HST9 aAp HB59 HGR HE8 HOB8 aBd HST8 HXT8 HB58 HE7' HOB7 HOG7 HST7 HXT7 HG7 HG8;have HFA:=zh (HF5.out.belowB aBy.out hBk5);have aBl:Hid (Ah wA ga (sgA x (hk:Int) ((leaf:Int)+1)) 52):=(aBy.out.block _ zo).trans ((SB.out.block _ hgal).trans HGA.out);have hlw:w.heap.size+4≤go∧w.heap.size+4≤ga:=by omega
     have XK:=zh (HO10.out.below (Below.refl _ _).drew);have HOBwA:=zh (HOB10.out.below (Below.refl _ _).drew);have HSTwA:=zh (fun y hy=>(HST10.out y hy).below (Below.refl _ _).drew);have XC:=zh (XE.out.below (Below.refl _ _).drew);have HYD:=zh (HFA.out.y);refine wp_region_held_drew (S:=fun w'=>w'.heap[go]? = some (.cells (enA t (.slice sp6 n0 cap6) (.slice sp9 (m+1) cap9)) 25 (0,0))∧w'.heap[ga]? = some (.cells (sgA x (hk:Int) ((leaf:Int)+1)) 52 (0,0))) (by kernel_rfl) ⟨aBn.out,aBl.out⟩ (fun hHeld=>?_);refine' zk 0 rfl (v:=_) (yieldsIf_load_mid (by rfl) _ _ rfl _ _ rfl _ _ ?hS0n30 Tryz.underlying25 rfl (jK t (.slice sp6 n0 cap6) (.slice sp9 (m+1) cap9))) ?rest0n30
     case hS0n30 =>
      intro w' hSw;exact bC (L:=enL t (.slice sp6 n0 cap6) (.slice sp9 (m+1) cap9)) hSw.1
     try simp only[Act.put,zu]
     refine' zk 1 rfl (v:=_) (yieldsIf_load_mid (by rfl) _ _ rfl _ _ rfl _ _ ?hS1n31 Tryz.underlying52 rfl (jI HX.out)) ?rest1n31
     case hS1n31 =>
      intro w' hSw;exact bC (L:=sgL x (hk:Int) ((leaf:Int)+1)) hSw.2
     try simp only[Act.put,zu]
     refine zr 2 rfl (fun K hK=>?_);rw[if_pos (by rfl)];refine wp_store_row 25 _ _ rfl (w.heap.size+1+1) (enA t (.slice sp6 n0 cap6) (.slice sp9 (m+1) cap9)) rfl rfl 25 _ HFA.out.y (aE _ _ _) rfl (bI _ _ _ _ _ _ _) ?_;generalize hw:World.setRow _ _ _=wB;have HYB:Hid (Ah wB (w.heap.size+1+1) (enA t (.slice sp6 n0 cap6) (.slice sp9 (m+1) cap9)) 25):=by rw[←hw];exact setRow_heap _ _ _ _ _ _ HFA.out.y
     have HZB:Hid (Ah wB (w.heap.size+1+1+1) (sgA bQ 0 0) 52):=by rw[←hw];exact (setRow_other _ _ _ _ zo).trans HFA.out.z
     have HEB:Hid (Ah wB go (enA t (.slice sp6 n0 cap6) (.slice sp9 (m+1) cap9)) 25):=by rw[←hw];exact (setRow_other _ _ _ _ zo).trans aBn.out
     have HGB:Hid (Ah wB ga (sgA x (hk:Int) ((leaf:Int)+1)) 52):=by rw[←hw];exact (setRow_other _ _ _ _ zo).trans aBl.out
     have HBB:Hid (Bw w wB):=by rw[←hw];exact below_setRow HFA.out.b.drew zo _
     have XJ:Hid (OwnG wB w5.heap.size (.slice sp9 (m+1) cap9) (l6.take k++X :: l6.drop k)):=by rw[←hw];exact⟨World.ownsRow.kept XK.out.1 (bT _ _ _) (cN XK.out.1 HYD.out (by decide)),XK.out.2⟩
     have HOBwB:Hid (OwnBy wB w5.heap.size (.slice sp6 n0 cap6) b):=by rw[←hw];exact HOBwA.out.setRow HYD.out (by decide) _
     have HSTwB:Hid (∀ y ∈ l6,SgT wB w5.heap.size y):=by rw[←hw];exact fun y hy=>(HSTwA.out y hy).setRow HYD.out (by decide) _
     have XB:Hid (SgT wB B X):=by rw[←hw];exact XC.out.setRow HYD.out (by decide) _
     clear hw;refine hK.out _ _ ⟨HEB.out,HGB.out⟩ fun _=>?_;clear hK K;refine zr 3 rfl (fun K hK=>?_);rw[if_pos (by rfl)];refine wp_store_row 52 _ _ rfl (w.heap.size+1+1+1) (sgA x (hk:Int) ((leaf:Int)+1)) rfl rfl 52 _ HZB.out (aV HX.out) (by rw[dD aN,dD HX.out]) (dR _ _ _) ?_;generalize hw:World.setRow _ _ _=wC;have HYC:Hid (Ah wC (w.heap.size+1+1) (enA t (.slice sp6 n0 cap6) (.slice sp9 (m+1) cap9)) 25):=by rw[←hw];exact (setRow_other _ _ _ _ zo).trans HYB.out
     have HZC:Hid (Ah wC (w.heap.size+1+1+1) (sgA x (hk:Int) ((leaf:Int)+1)) 52):=by rw[←hw];exact setRow_heap _ _ _ _ _ _ HZB.out
     have HEC:Hid (Ah wC go (enA t (.slice sp6 n0 cap6) (.slice sp9 (m+1) cap9)) 25):=by rw[←hw];exact (setRow_other _ _ _ _ zo).trans HEB.out
     have HGC:Hid (Ah wC ga (sgA x (hk:Int) ((leaf:Int)+1)) 52):=by rw[←hw];exact (setRow_other _ _ _ _ zo).trans HGB.out
     have HBC:Hid (Bw w wC):=by rw[←hw];exact below_setRow HBB.out zo _
     have aBa:Hid (OwnG wC w5.heap.size (.slice sp9 (m+1) cap9) (l6.take k++X :: l6.drop k)):=by rw[←hw];exact⟨World.ownsRow.kept XJ.out.1 (bT _ _ _) (cN XJ.out.1 HZB.out (by decide)),XJ.out.2⟩
     have aBe:Hid (OwnBy wC w5.heap.size (.slice sp6 n0 cap6) b):=by rw[←hw];exact HOBwB.out.setRow HZB.out (by decide) _
     have aAt:Hid (∀ y ∈ l6,SgT wC w5.heap.size y):=by rw[←hw];exact fun y hy=>(HSTwB.out y hy).setRow HZB.out (by decide) _
     have XA:Hid (SgT wC B X):=by rw[←hw];exact XB.out.setRow HZB.out (by decide) _
     clear hw;refine hK.out _ _ ⟨HEC.out,HGC.out⟩ fun _=>?_;clear hK K;refine zv 4 rfl ?_;refine zd ?_ _;go_wp2_with fail;refine bodyPost_ret (bA (P:=Tryz.prog) rfl _ _ (w.heap.size+1+1) (w.heap.size+1+1+1) 25 52 _ _ (0,0) (0,0) _ _ rfl HYC.out rfl HZC.out Tryz.underlying25 rfl (aE _ _ _) Tryz.underlying52 rfl (aV HX.out)) rfl ?_;rw[HVE.out];refine⟨(.slice sp6 n0 cap6),(.slice sp9 (m+1) cap9),rfl,⟨l6.take k++X :: l6.drop k,?_,?_⟩,HBC.out⟩
     ·show _=sR (l.map pg) (mF x hk leaf d);rw[HIA.out,List.map_append,List.map_cons,List.map_take,List.map_drop,HLP6.out,HXP.out]
     ·refine⟨⟨sp6,n0,cap6,rfl,(aBe.out.bsrc HP.out.len).1,(aBe.out.bsrc HP.out.len).2⟩,⟨sp9,m+1,cap9,rfl,aBa.out.sgs ?_ ?_,aBa.out.nilcap⟩⟩
      ·rw[List.length_append,List.length_cons,List.length_take,List.length_drop,HL6.out];omega
      ·intro y hy;rcases List.mem_append.1 hy with h | h
       ·exact (aAt.out y (List.mem_of_mem_take h)).dat
       ·rcases List.mem_cons.1 h with rfl | h
        ·exact XA.out.dat
        ·exact (aAt.out y (List.mem_of_mem_drop h)).dat
   ·have HVE:Hid (V=ED 5):=by
     have:=SK (x:=x) HVL.out HE0.out (by rw[hMD];exact hhas);rw[HV.out] at this;exact this
    clear hhas
    go_wp2_with (first
     | (refine wpList_store_row rfl 25 _ _ rfl (w.heap.size+1+1) zEn rfl rfl 25 _ HF5.out.y (aE _ _ _) rfl (bI _ _ _ _ _ _ _) ?_;generalize hw8:World.setRow w5 _ _=w8;have HY8:Hid (Ah w8 (w.heap.size+1+1) zEn 25):=(by rw[←hw8];exact setRow_heap _ _ _ _ _ _ HF5.out.y);have HZ8:Hid (Ah w8 (w.heap.size+1+1+1) (sgA bQ 0 0) 52):=(by rw[←hw8];exact (setRow_other _ _ _ _ zo).trans HF5.out.z);have HB8:Hid (Bw w w8):=(by rw[←hw8];exact below_setRow HF5.out.b zo _);clear hw8)
     | (refine wpList_store_row rfl 52 _ _ rfl (w.heap.size+1+1+1) (sgA bQ 0 0) rfl rfl 52 _ HZ8.out (aV aN) rfl (dR _ _ _) ?_;generalize hw9:World.setRow w8 _ _=w9;have HZ9:Hid (Ah w9 (w.heap.size+1+1+1) (sgA bQ 0 0) 52):=(by rw[←hw9];exact setRow_heap _ _ _ _ _ _ HZ8.out);have HY9:Hid (Ah w9 (w.heap.size+1+1) zEn 25):=(by rw[←hw9];exact (setRow_other _ _ _ _ zo).trans HY8.out);have HB9:Hid (Bw w w9):=(by rw[←hw9];exact below_setRow HB8.out zo _);clear hw9))
    exact bodyPost_ret (bA (P:=Tryz.prog) rfl _ _ (w.heap.size+1+1) (w.heap.size+1+1+1) 25 52 _ _ (0,0) (0,0) _ _ rfl HY9.out rfl HZ9.out Tryz.underlying25 rfl (aE _ _ _) Tryz.underlying52 rfl (aV aN)) rfl (by rw[HVE.out];exact SgR.err HB9.out)
end Go.Proofs.YtaeobegaodhpcaaGreatDoor
