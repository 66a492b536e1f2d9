/-
  Keys of many one-time keys: the walk of Read (condition: the words read as strings).
-/
import Derived.Test.YtaeobegaodhpcaaGreatDoorZip
import Derived.Test.YtaeobegaodhpcaaGreatDoorQ24
import Derived.Lib.SliceRun
import Derived.Lib.AppendZerosOnto
import Derived.Lib.Walk
import Derived.Shelf.Strconv.Itoa4
import Derived.Lib.AppendIntMem
import Derived.WalkSmall
set_option maxRecDepth 100000
set_option maxHeartbeats 8000000
namespace Go.Proofs.YtaeobegaodhpcaaGreatDoor
open Go.RowKit Go.Proofs.YtaeobegaodhpcaaGreatDoor.One
theorem PP (sp:Option Addr) (n cap:Nat) (l:List ByteArray) (w:World) (hl:StrsIn w w.heap.size sp n l) (hcap:n≤cap) (hn:n≤1000000) (hmx:(hdB l).size≤9223372036854775807) :
 Calls Tryz.prog 87 #[.slice sp n cap] w (RdP l w):=by
 have HL:=zh hl;have hlen:=hl.len;clear hl;have HZ:=zh (heap_alloc_new w (.cells (siA 0 aH aH) 48));have HB:=zh (aA w (.cells (siA 0 aH aH) 48));have HS:=zh (aF w (.cells (siA 0 aH aH) 48));have hbi:=gW
 go_enter Tryz.func87,Tryz.ntmps87
 go_upto_region 1 with (fail)
 generalize hw0:World.alloc w _=w0;have HZ0:Hid (Ah w0 w.heap.size (siA 0 aH aH) 48):=by rw[←hw0];exact HZ.out
 have HB0:Hid (Bw w w0):=by rw[←hw0];exact HB.out
 have hs0:w.heap.size+1≤w0.heap.size:=by rw[←hw0];exact Nat.le_of_eq HS.out.symm
 clear hw0 HZ HB HS;by_cases h1:n<69
 ·have q1:decide ((n:Int)<69)=true:=by simp;omega
  go_wp2_with (refine wpList_store_row rfl 48 _ _ rfl w.heap.size (siA 0 aH aH) rfl rfl 48 _ HZ0.out (aL _ _ _) rfl (cO _ _ _ _ _ _ _) ?_)
  exact bodyPost_ret (aC (P:=Tryz.prog) rfl _ _ w.heap.size 48 _ (0,0) _ rfl (setRow_heap _ _ _ _ _ _ HZ0.out) Tryz.underlying48 rfl (aL _ _ _)) rfl (RdP.no (vF zo) rfl (below_setRow HB0.out zl _))
 ·have q1:decide ((n:Int)<69)=false:=by simp;omega
  by_cases h2:75<n
  ·have q2:decide ((n:Int)>75)=true:=by simp;omega
   go_wp2_with (refine wpList_store_row rfl 48 _ _ rfl w.heap.size (siA 0 aH aH) rfl rfl 48 _ HZ0.out (aL _ _ _) rfl (cO _ _ _ _ _ _ _) ?_)
   exact bodyPost_ret (aC (P:=Tryz.prog) rfl _ _ w.heap.size 48 _ (0,0) _ rfl (setRow_heap _ _ _ _ _ _ HZ0.out) Tryz.underlying48 rfl (aL _ _ _)) rfl (RdP.no (vF zo) rfl (below_setRow HB0.out zl _))
  ·have q2:decide ((n:Int)>75)=false:=by simp;omega
   obtain⟨wb,wo,rfl,hwb,hcw⟩:=HL.out.cells zo;have p1:(0:Int)<(n:Int):=by omega
   have p2:(n:Int)≤(cap:Int):=by omega
   have HC0:Hid (w0.cell? ⟨wb,wo,none⟩=some (.string (hdB l))):=by
    have h:=hcw 0 zo;rw[Nat.add_zero] at h;refine (HB0.out.cell (p:=⟨wb,wo,none⟩) (by show wb<w.heap.size;omega)).trans (h.trans ?_);unfold hdB;rw[List.getD_eq_getElem?_getD,List.getElem?_eq_getElem zo];rfl
   have HCW:=zh hcw;clear hcw;have c0:=HC0.out;go_wp2_with fail;refine (kT (hdB l) w0 hmx).mono ?_;rintro e w' ⟨rfl,rfl⟩;clear c0;by_cases hk:pnk (hdB l).data.toList=true
   ·by_cases hb:65535<pnv (hdB l).data.toList
    ·have hkb:=KN hb;have HKB:=zh hkb;have q4:decide (pnv (hdB l).data.toList>65535)=true:=by simpa using hb
     rw[hk]
     go_wp2_with (refine wpList_store_row rfl 48 _ _ rfl w.heap.size (siA 0 aH aH) rfl rfl 48 _ HZ0.out (aL _ _ _) rfl (cO _ _ _ _ _ _ _) ?_)
     exact bodyPost_ret (aC (P:=Tryz.prog) rfl _ _ w.heap.size 48 _ (0,0) _ rfl (setRow_heap _ _ _ _ _ _ HZ0.out) Tryz.underlying48 rfl (aL _ _ _)) rfl (RdP.no HKB.out rfl (below_setRow HB0.out zl _))
    ·have q4:decide (pnv (hdB l).data.toList>65535)=false:=by simpa using hb
     have HPK:=zh hk;have HPV:Hid (pnv (hdB l).data.toList≤65535):=by show _≤_;omega
     rw[hk];clear hb hk;generalize ha:pnv (hdB l).data.toList=a at *;have HAE:=zh ha;clear ha;have HZN:=zh (SxBox.new w0 0 aH aH);have HRN:=zh (SxBox.new w0 a aH aH)
     go_wp2_with (refine wpList_store_row rfl 48 _ _ rfl w0.heap.size (siA a aH aH) rfl rfl 48 _ HZN.out.s (aL _ _ _) rfl (cO _ _ _ _ _ _ _) ?_;rw[aK];generalize hw1:World.alloc w0 _=w1;have HS1:Hid (SxBox w0 a aH aH w1):=(by rw[←hw1];exact HRN.out);clear hw1 HZN HRN)
     clear q1 q2 q4 hbi;have hs1:w0.heap.size+1≤w1.heap.size:=Nat.le_of_eq HS1.out.k.symm;have HR1:Hid (RdS w w0.heap.size (w.heap.size+1) a aH aH [] [] w1):=⟨(HS1.out.b.block _ zo).trans HZ0.out,HS1.out.s,OwnHv.nil _ _,OwnHv.nil _ _,.inl ⟨rfl,rfl⟩,HB0.out.trans (HS1.out.b.mono zo),by omega,by omega⟩;clear HS1 HZ0 HB0;generalize w0.heap.size=gs at *;have hdl:(l.drop 1).length=n-1:=by rw[List.length_drop,hlen]
     go_loopw [39] (fun i wr=>∃ (j bp:Nat) (cv pv:Value),j≤n-1∧i=.int .i64 (j:Int)∧((l.drop 1).take j).all hpK=true∧(j≤68→pv=aH)∧Hid (RdS w gs bp a cv pv ((((l.drop 1).take j).take 68).map hpB) ((((l.drop 1).take j).drop 68).map hpB) wr)) (fun i _=>n-(intOf i).toNat)
     case atStart=>exact⟨0,w.heap.size+1,aH,aH,by omega,by simp,by simp,fun _=>rfl,show RdS w gs (w.heap.size+1) a aH aH _ _ w1 from by simpa using HR1.out⟩
     case round =>
      clear HR1;obtain⟨j,bp,cv,pv,hj,rfl,hall,hpv,HR⟩:=hrel;have hir:=HR.out.i;have hmr:=HR.out.m;by_cases hlt:j<n-1
      ·have hd1:decide ((j:Int)<(n:Int)-1)=true:=by simp;omega
       have p3:(0:Int)≤(j:Int):=by omega
       have p4:(j:Int)<(n:Int)-1:=by omega
       have t1:wo+1+j=wo+(j+1):=by omega
       have hjl:j<(l.drop 1).length:=by omega
       obtain⟨s,hse⟩:∃ s,(l.drop 1)[j]=s:=⟨_,rfl⟩;have HCJ:Hid (wr.cell? ⟨wb,wo+(j+1),none⟩=some (.string s)):=by
        refine (HR.out.b.cell (p:=⟨wb,wo+(j+1),none⟩) (by show wb<w.heap.size;omega)).trans ((HCW.out (j+1) zo).trans ?_);rw[←hse,List.getElem_drop];congr 2;simp[Nat.add_comm]
       have cj:=HCJ.out;go_wp2_with fail;clear cj hd1;refine (nX s wr).mono ?_;rintro e w6 ⟨rfl,hb6⟩;have HR6:=zh (HR.out.below hb6);have hs6:=hb6.size;clear hb6;have cQ:Hid (H16 (hpB s)):=vI _;have HZN:=zh (Zro.new w6);have HRB:=zh (RowB.new w6 42 (hpB s));have HSE:=zh hse;by_cases hok:pok s.data.toList 16=true
       ·have hallS:=tkA hjl hall (show hpK (l.drop 1)[j]=true by rw[hse];exact hok);rw[hok];by_cases hlt68:j<68
        ·have hd2:decide ((j:Int)<68)=true:=by simp;omega
         clear hok hall hse
         go_upto_region 13 with (refine wpList_store_row rfl 42 _ _ rfl w6.heap.size (hvA (hpB s)) rfl rfl 42 _ HZN.out.z (aI cQ.out) (cE cQ.out) (cM _) ?_;rw[aK];generalize hw9:World.alloc w6 _=w9;have sI:Hid (RowB w6 42 (hpB s) w9):=(by rw[←hw9];exact HRB.out);clear hw9 HZN HRB;have HR9:=zh (HR6.out.below sI.out.b);have HX9:=zh (sI.out.r);have hs9:w6.heap.size+1≤w9.heap.size:=Nat.le_of_eq sI.out.s.symm)
         obtain rfl:pv=aH:=hpv zo;have HTP:Hid ((((l.drop 1).take j).drop 68).map hpB=[]):=tkP1 zo;rw[HTP.out] at HR9;have kf:=sP HR9.out.g;have HNE:Hid (j=((((l.drop 1).take j).take 68).map hpB).length):=by show _=_;simp[List.length_take,List.length_drop];omega
         have hi9:=HR9.out.i;have hm9:=HR9.out.m;have hN9:j≤1000000:=by omega
         go_wp2_with (first
          | (refine wpList_load_row rfl 42 _ rfl w6.heap.size rfl 42 _ (0,0) _ HX9.out Tryz.underlying42 rfl (aI cQ.out) ?_)
          | (refine aT rfl 46 1 [(0,.tmp 56)] rfl [(0,.agg (hvA (hpB s)))] rfl _ _ (gD _ (hpB s) cQ.out) ?_;generalize hw7:World.alloc w9 _=w7;have HB7:Hid (Below w9.heap.size w9 w7):=(by rw[←hw7];exact aA _ _);have HQ7:Hid (w7.rangeAt w9.heap.size 0 ((hpB s).map (Value.int .u8))):=(by rw[←hw7];intro j v hv;rw[Nat.zero_add];exact aG (heap_alloc_new w9 _) hv);have HR7:=zh (HR9.out.below HB7.out);have hs7:=HB7.out.size;clear hw7 kf)
          | (at_builtin;refine cG rfl (.tmp 55) (.tmp 57) rfl (w.heap.size+1) cv _ j HNE.out rfl HR7.out.c w9.heap.size (hpB s) rfl HQ7.out cQ.out hN9 zo ?_;intro sp8 cap8 w8 HO8 HB8 HG8;have HAP:=zh (HR7.out.addC HB8.out HG8.out HO8.out);have kg:=sP HAP.out.1;have fg:=frozen_of_row _ _ 1 _ _ HAP.out.1))
         clear kg fg;have HRZ:=zh HAP.out.2;clear HAP HO8 HB8 HG8;generalize World.setCell w8 _ _=wz at *;go_roundw
         case rel=>exact⟨j+1,bp,(.slice sp8 (j+1) cap8),aH,by omega,by go_num,hallS,fun _=>rfl,by rw[tkC1 hjl hlt68,tkP1 (show j+1≤68 by omega),HSE.out];exact HRZ.out⟩
         case measure=>simp[intOf];omega
        ·have hd2:decide ((j:Int)<68)=false:=by simp;omega
         clear hok hall hse
         go_upto_region 13 with (refine wpList_store_row rfl 42 _ _ rfl w6.heap.size (hvA (hpB s)) rfl rfl 42 _ HZN.out.z (aI cQ.out) (cE cQ.out) (cM _) ?_;rw[aK];generalize hw9:World.alloc w6 _=w9;have sI:Hid (RowB w6 42 (hpB s) w9):=(by rw[←hw9];exact HRB.out);clear hw9 HZN HRB;have HR9:=zh (HR6.out.below sI.out.b);have HX9:=zh (sI.out.r);have hs9:w6.heap.size+1≤w9.heap.size:=Nat.le_of_eq sI.out.s.symm)
         obtain⟨bq,hr9,hcb⟩:=HR9.out.apartP;have HCB:=zh hcb;have aAz:=zh hr9;clear HR9 hcb hr9;have HR9:=aAz;clear aAz;have kf:=sK HR9.out.g;have HNE:Hid ((j-68)=((((l.drop 1).take j).drop 68).map hpB).length):=by show _=_;simp[List.length_take,List.length_drop];omega
         have hi9:=HR9.out.i;have hm9:=HR9.out.m;have hN9:(j-68)≤1000000:=by omega
         go_wp2_with (first
          | (refine wpList_load_row rfl 42 _ rfl w6.heap.size rfl 42 _ (0,0) _ HX9.out Tryz.underlying42 rfl (aI cQ.out) ?_)
          | (refine aT rfl 46 1 [(0,.tmp 62)] rfl [(0,.agg (hvA (hpB s)))] rfl _ _ (gD _ (hpB s) cQ.out) ?_;generalize hw7:World.alloc w9 _=w7;have HB7:Hid (Below w9.heap.size w9 w7):=(by rw[←hw7];exact aA _ _);have HQ7:Hid (w7.rangeAt w9.heap.size 0 ((hpB s).map (Value.int .u8))):=(by rw[←hw7];intro j v hv;rw[Nat.zero_add];exact aG (heap_alloc_new w9 _) hv);have HR7:=zh (HR9.out.below HB7.out);have hs7:=HB7.out.size;clear hw7 kf)
          | (at_builtin;refine cG rfl (.tmp 61) (.tmp 63) rfl bq pv _ (j-68) HNE.out rfl HR7.out.p w9.heap.size (hpB s) rfl HQ7.out cQ.out hN9 zo ?_;intro sp8 cap8 w8 HO8 HB8 HG8;have HAP:=zh (HR7.out.addP HCB.out HB8.out HG8.out HO8.out);have kg:=sK HAP.out.1;have fg:=frozen_of_row _ _ 2 _ _ HAP.out.1))
         clear kg fg;have HRZ:=zh HAP.out.2;clear HAP HO8 HB8 HG8;generalize World.setCell w8 _ _=wz at *;go_roundw
         case rel=>exact⟨j+1,bq,cv,(.slice sp8 ((j-68)+1) cap8),by omega,by go_num,hallS,fun h=>absurd h zo,by rw[tkC2 zo,tkP2 hjl zo,HSE.out];exact HRZ.out⟩
         case measure=>simp[intOf];omega
       ·have hok2:pok s.data.toList 16=false:=by simpa using hok
        have HKB:=zh (KO hjl (by rw[hse];exact hok2));rw[hok2];clear hok2;have hbi:=gW;clear hok hall hse hpv
        go_upto_region 12 with (refine wpList_store_row rfl 42 _ _ rfl w6.heap.size (hvA (hpB s)) rfl rfl 42 _ HZN.out.z (aI cQ.out) (cE cQ.out) (cM _) ?_;rw[aK];generalize hw9:World.alloc w6 _=w9;have sI:Hid (RowB w6 42 (hpB s) w9):=(by rw[←hw9];exact HRB.out);clear hw9 HZN HRB;have HR9:=zh (HR6.out.below sI.out.b);have HX9:=zh (sI.out.r);have hs9:w6.heap.size+1≤w9.heap.size:=Nat.le_of_eq sI.out.s.symm)
        go_wp2_with (refine wpList_store_row rfl 48 _ _ rfl w.heap.size (siA 0 aH aH) rfl rfl 48 _ HR9.out.z (aL _ _ _) rfl (cO _ _ _ _ _ _ _) ?_)
        exact bodyPost_ret (aC (P:=Tryz.prog) rfl _ _ w.heap.size 48 _ (0,0) _ rfl (setRow_heap _ _ _ _ _ _ HR9.out.z) Tryz.underlying48 rfl (aL _ _ _)) rfl (RdP.no HKB.out rfl (below_setRow HR9.out.b zl _))
      ·obtain rfl:j=n-1:=by omega
       have hd1:decide (((n-1:Nat):Int)<(n:Int)-1)=false:=by simp;omega
       have HTK:Hid ((l.drop 1).take (n-1)=l.drop 1):=List.take_of_length_le zo;rw[HTK.out] at hall HR;have HKY:=zh (KL (l:=l) zo HPK.out (by rw[HAE.out];exact HPV.out) hall);clear hall hpv;obtain⟨sp1,c1,e1⟩:=aM HR.out.c.1;obtain⟨sp2,c2,e2⟩:=aM HR.out.p.1;obtain⟨N1,hN1⟩:∃ N,(((l.drop 1).take 68).map hpB).length=N:=⟨_,rfl⟩;obtain⟨N2,hN2⟩:∃ N,(((l.drop 1).drop 68).map hpB).length=N:=⟨_,rfl⟩;rw[hN1] at e1;rw[hN2] at e2;have HN1:=zh hN1;have HN2:=zh hN2;clear hN1 hN2;subst e1 e2
       go_wp2_with (first
        | (refine wpList_load_row rfl 48 _ rfl gs rfl 48 _ (0,0) _ HR.out.g Tryz.underlying48 rfl (aL _ _ _) ?_)
        | (refine wpList_store_row rfl 48 _ _ rfl w.heap.size _ rfl rfl 48 _ HR.out.z (aL _ _ _) rfl (cO _ _ _ _ _ _ _) ?_))
       refine bodyPost_ret (aC (P:=Tryz.prog) rfl _ _ w.heap.size 48 _ (0,0) _ rfl (setRow_heap _ _ _ _ _ _ HR.out.z) Tryz.underlying48 rfl (aL _ _ _)) rfl (RdP.yes HKY.out (n1:=N1) (n2:=N2) (sp1:=sp1) (sp2:=sp2) (c1:=c1) (c2:=c2) (by rw[HAE.out];rfl) HN1.out.symm HN2.out.symm ?_ ?_ (below_setRow HR.out.b zl _))
       ·exact OwnHv.setRow (base:=w.heap.size) (HR.out.c.base (Nat.le_succ _)) HR.out.z iD _
       ·exact OwnHv.setRow (base:=w.heap.size) (HR.out.p.base (by have:=HR.out.m;omega)) HR.out.z iD _
   ·have hk2:pnk (hdB l).data.toList=false:=by simpa using hk
    have HKB:=zh (KM hk2);rw[hk2];clear hk hk2
    go_wp2_with (refine wpList_store_row rfl 48 _ _ rfl w.heap.size (siA 0 aH aH) rfl rfl 48 _ HZ0.out (aL _ _ _) rfl (cO _ _ _ _ _ _ _) ?_)
    exact bodyPost_ret (aC (P:=Tryz.prog) rfl _ _ w.heap.size 48 _ (0,0) _ rfl (setRow_heap _ _ _ _ _ _ HZ0.out) Tryz.underlying48 rfl (aL _ _ _)) rfl (RdP.no HKB.out rfl (below_setRow HB0.out zl _))
theorem kC (z:Array Value) (n:Nat):(Builtin.zeroCells z n).size=n*z.size:=by simp[Builtin.zeroCells]
theorem MJ (n:Nat) (h0:0<n) (hn:n≤1000000000000) (w:World) :
 Calls Tryz.prog 115 #[.slice none 0 0,.int .i64 n] w fun e w'=>∃ c,n≤c∧e=.returned (.slice (some ⟨w.heap.size,0,none⟩) 0 c)∧w'.ownsRow w.heap.size 42 16 (.slice (some ⟨w.heap.size,0,none⟩) 0 c) 0 []∧Below w.heap.size w w':=by
 obtain⟨i0,hi0,hz0,hz1,hz2⟩:=bF pQ
 have hrz:∀ ty,(Builtin.append_ #[46,3] ty #[.slice none 0 0,.int .i64 (n:Int)]).run Tryz.prog w=.ok (.slice (some ⟨w.heap.size,0,none⟩) n (grownCap w n 0 42))
  (w.drew.alloc (.cells (([]:List Value).toArray++Builtin.zeroCells ((.agg (List.replicate 16 (Value.int .u8 0)).toArray):Value).cells n++Builtin.zeroCells ((.agg (List.replicate 16 (Value.int .u8 0)).toArray):Value).cells (grownCap w n 0 42-n)) 42)):=fun ty=>by
  have h:=Lib.run_append_grow_zeros w 46 3 ty 42 i0 (.agg (List.replicate 16 (Value.int .u8 0)).toArray) .i64 .i64 Tryz.underlying46 Tryz.underlying3 hi0 hz0 none 0 0 [] (run_firstCells_none w.drew i0.size 0 0 0) n h0 zo zo zo (by rw[hz2];omega)
   (by unfold Builtin.nextslicecap;rw[if_pos zo,hz2];omega)
  rw[Nat.zero_add] at h;exact h
 have hGn:n≤grownCap w n 0 42:=grownCap_ge w _ _ _;obtain⟨G,hG⟩:∃ G,G=grownCap w n 0 42:=⟨_,rfl⟩;have hGm:grownCap w n 0 42≤maxLen:=grownCap_le_maxLen w n 0 42 (by unfold maxLen;omega);rw[←hG] at hrz hGn hGm;have hsz:(([]:List Value).toArray++Builtin.zeroCells ((.agg (List.replicate 16 (Value.int .u8 0)).toArray):Value).cells n++Builtin.zeroCells ((.agg (List.replicate 16 (Value.int .u8 0)).toArray):Value).cells (G-n)).size=G*16:=by
  have e1:((.agg (List.replicate 16 (Value.int .u8 0)).toArray):Value).cells.size=16:=by rfl
  rw[Array.size_append,Array.size_append,kC,kC,e1];show 0+n*16+(G-n)*16=G*16;omega
 have CM:=zh (World.ownsRow_made (e:=42) (size:=16) w.drew _ G zl hGm hsz);have hbel:Below w.heap.size w (w.drew.alloc (.cells (([]:List Value).toArray++Builtin.zeroCells ((.agg (List.replicate 16 (Value.int .u8 0)).toArray):Value).cells n++Builtin.zeroCells ((.agg (List.replicate 16 (Value.int .u8 0)).toArray):Value).cells (G-n)) 42)):=(Below.refl w.heap.size w).drew.alloc zl _;have HB:=zh hbel;have hG63:(G:Int)≤9223372036854775807:=by unfold maxLen at hGm;omega
 have p1:(0:Int)≤(G:Int):=by omega
 have p2:(0:Int)≤(n:Int):=by omega
 have p3:(n:Int)≤(G:Int):=by omega
 have hd1:decide ((n:Int)<0)=false:=by simp
 have hd2:decide ((n:Int)>0)=true:=by simp;omega
 have w1:IntKind.i64.wrap (n:Int)=(n:Int):=IntWalk.i64_in _ zo;have w2:wrap64 (n:Int)=(n:Int):=by unfold wrap64;omega
 clear hbel hsz hG;generalize hW:World.alloc w.drew _=W at hrz CM HB;clear hW;have HG:=zh hGn
 go_enter Tryz.func115,Tryz.ntmps115
 go_wp2_with (at_builtin;refine Lib.wpList_append_run _ rfl _ _ _ _ rfl _ _ rfl rfl _ _ (hrz _) ?_)
 all_goals (go_ret;exact⟨G,HG.out,rfl,CM.out,HB.out⟩)
theorem GL (w:World):Calls Tryz.prog 115 #[.slice none 0 0,.int .i64 0] w fun e w'=>e=.returned (.slice none 0 0)∧w=w':=by
 go_enter Tryz.func115,Tryz.ntmps115
 go_wp2_with fail;go_ret;exact⟨rfl,rfl⟩
theorem jW {w:World} {ops:Array Oper} {rest:List Oper} {o:Oper} {a:Act} {Q:Exit→Act→World→Prop} (hgd:o.guard=none) (s x:Operand)
 (ho:o.op=.call { callee:=.builtin .append,args:=#[s,x],argTypes:=#[46,46] }) (base:Nat) (v:Value) (l:List (List Int)) (n:Nat) (hn:n=l.length) (hs:a.eval s=v) (hown:OwnHv w base v l)
 (sp2:Option Addr) (m cap2 B:Nat) (l2:List (List Int)) (hx:a.eval x=.slice sp2 m cap2) (hsrc:HvsIn w B sp2 m cap2 l2) (hnil:sp2=none→cap2=0) (hlen:n+m≤1000000) (hbase:base≤w.heap.size)
 (h:∀ sp cap w',Hid (OwnHv w' base (.slice sp (n+m) cap) (l++l2))→Hid (Below base w w')→Hid (w.grownBy w' v.ownBlock)→wpList Tryz.prog ops Q rest (a.put o.dst (.slice sp (n+m) cap)) w'):wpList Tryz.prog ops Q (o :: rest) a w:=by
 subst hn;obtain⟨i0,hi0,hz0,hz1,hz2⟩:=bF pQ;have hl2:=hsrc.len;have hrl:=rM l2 hsrc.ok
 cases sp2 with
 | none =>
   have hm:m=0:=by
    by_cases h0:0<m
    ·obtain⟨_,_,e,_⟩:=hsrc.cells h0;cases e
    ·omega
   subst hm;have e2:l2=[]:=List.eq_nil_of_length_eq_zero hl2;subst e2;rw[hnil rfl] at hx;obtain⟨sp,cap,rfl⟩:=aM hown.1;refine wpList_append_own_none hgd s x _ ho base _ i0 16 Tryz.underlying46 hi0 _ l.length _ hs hown.1 hx ?_;exact h sp cap w (by show OwnHv _ _ _ _;simpa using hown) (Below.refl _ _) (World.grownBy.refl _ _)
 | some ad =>
   refine wpList_append_own w hgd s x _ ho base _ i0 _ 16 16 Tryz.underlying46 hi0 hz0 hz1 hz2 rfl (by decide) v l.length _ hs hown.1 ad m cap2 (gO l2) hx (by rw[hrl,hl2]) ?_ (fun u hu=>by obtain⟨q,_,hq⟩:=List.mem_flatMap.1 hu;obtain⟨i,_,rfl⟩:=List.mem_map.1 hq;rfl) (by unfold maxLen;omega) zo hbase ?_
   ·intro j u hj;have hjl:j<l2.length*16:=by have:=(List.getElem?_eq_some_iff.1 hj).1;omega
    have hi:j / 16<m:=by omega
    obtain⟨b,off,e,_,_,hr⟩:=hsrc.cells zo;injection e with e;subst e
    have ej:j / 16*16+j % 16=j:=by omega
    have h16:=hsrc.at16 hi;have hx16:((l2.getD (j / 16) []).map (Value.int .u8))[j % 16]? = some (((l2.getD (j / 16) []).map (Value.int .u8))[j % 16]'(by rw[List.length_map,h16.1];omega)):=List.getElem?_eq_getElem _;have hf:=nO (fun d:List Int=>d.map (Value.int .u8)) 16 l2 (fun q hq=>by rw[List.length_map,(hsrc.ok q hq).1]) (j / 16) (l2.getD (j / 16) []) (by rw[List.getD_eq_getElem?_getD,List.getElem?_eq_getElem zo];rfl) (j % 16) _ hx16;rw[ej] at hf;unfold gO at hj;rw[hj] at hf;injection hf with hf
    have hc:=hr (j / 16) hi (j % 16) _ hx16;rw[←hf,Nat.add_assoc,ej] at hc;rw[Addr.add_mid];exact hc
   ·intro v' w' h1 h2 _;have h3:w'.ownsRow base 42 16 v' (l++l2).length (gO (l++l2)):=by
     unfold gO at h1 ⊢;rw[List.length_append,List.flatMap_append,hl2];exact h1
    obtain⟨sp,cap,rfl⟩:=aM h1;exact h sp cap w' ⟨h3,fun z hz=>by
     rcases List.mem_append.1 hz with hz | hz
     ·exact hown.2 z hz
     ·exact hsrc.ok z hz⟩ ((Below.refl base w).grown h2 hbase (bO hown.1)) h2
structure TwoS (w:World) (g:Nat) (v1 v2:Value):Prop where
 r:w.heap[g]? = some (.cells #[v1,v2] 46 (0,0))
theorem TwoS.c0 {w:World} {g:Nat} {v1 v2:Value} (h:TwoS w g v1 v2):w.cell? ⟨g,0,none⟩=some v1:=aG (L:=[v1,v2]) h.r rfl
theorem TwoS.c1 {w:World} {g:Nat} {v1 v2:Value} (h:TwoS w g v1 v2):w.cell? ⟨g,1,none⟩=some v2:=aG (L:=[v1,v2]) h.r rfl
theorem TwoS.below {w w':World} {g B:Nat} {v1 v2:Value} (h:TwoS w g v1 v2) (hb:Below B w w') (hg:g<B):TwoS w' g v1 v2:=⟨(hb.block _ hg).trans h.r⟩
def cutL (cl pl:List (List Int)) (k:Nat):List (List Int):=if k=0 then [] else if k=1 then cl else cl++pl
def WJ (n m k:Nat):Nat:=if k=0 then 0 else if k=1 then n else n+m
theorem CF (g:Nat) (sp1:Option Addr) (n c1:Nat) (cl:List (List Int)) (sp2:Option Addr) (m c2:Nat) (pl:List (List Int)) (w:World) (ht:TwoS w g (.slice sp1 n c1) (.slice sp2 m c2)) (hg:g<w.heap.size) (hc:HvsIn w w.heap.size sp1 n c1 cl) (hp:HvsIn w w.heap.size sp2 m c2 pl) (hn1:sp1=none→c1=0) (hn2:sp2=none→c2=0) (hn:n≤1000) (hm:m≤1000) :
 Calls Tryz.prog 75 #[.slice (some ⟨g,0,none⟩) 2 2] w fun e w'=>∃ sp cap,e=.returned (.slice sp (n+m) cap)∧OwnHv w' w.heap.size (.slice sp (n+m) cap) (cl++pl)∧Below w.heap.size w w':=by
 have HT:=zh ht;have HC:=zh hc;have HP:=zh hp;have HN1:=zh hn1;have HN2:=zh hn2;clear ht hc hp hn1 hn2
 go_enter Tryz.func75,Tryz.ntmps75
 go_wp2_with fail
 go_loopw [3,11] (fun v i wr=>∃ k:Nat,k≤2∧i=.int .i64 (k:Int)∧v=.int .i64 ((WJ n m k:Nat):Int)∧w=wr) (fun _ i _=>2-(intOf i).toNat)
 case atStart=>exact⟨0,by omega,rfl,rfl,rfl⟩
 case round =>
  obtain⟨k,hk,rfl,rfl,rfl⟩:=hrel;have c0:=HT.out.c0;have c1':=HT.out.c1;rcases (show k=0∨k=1∨k=2 by omega) with rfl | rfl | rfl
  ·have e0:WJ n m 0=0:=rfl;rw[e0];have hd2:decide ((n:Int)<0)=false:=by simp
   have w1:IntKind.i64.wrap (n:Int)=(n:Int):=IntWalk.i64_in _ zo;have w2:wrap64 (n:Int)=(n:Int):=by unfold wrap64;omega
   go_wp2_with fail;go_roundw
   case rel=>exact⟨1,by omega,by go_num,by first | rfl | go_num | simp[WJ],by first | rfl | trivial⟩
   case measure=>simp[intOf]
  ·have e0:WJ n m 1=n:=rfl;rw[e0];have hd2:decide ((n:Int)+(m:Int)<0)=false:=by simp;omega
   have w1:IntKind.i64.wrap ((n:Int)+(m:Int))=(n:Int)+(m:Int):=IntWalk.i64_in _ zo;have w2:wrap64 ((n:Int)+(m:Int))=(n:Int)+(m:Int):=by unfold wrap64;omega
   go_wp2_with fail;go_roundw
   case rel=>exact⟨2,by omega,by go_num,by first | rfl | go_num | simp[WJ],by first | rfl | trivial⟩
   case measure=>simp[intOf]
  ·have e0:WJ n m 2=n+m:=rfl;rw[e0];clear c0 c1' e0;obtain⟨N,hN⟩:∃ N,n+m=N:=⟨_,rfl⟩;rw[hN];have HN:=zh hN;have hN2:N≤2000:=by omega
   clear hN;have hgrow:Calls Tryz.prog 115 #[.slice none 0 0,.int .i64 N] w fun e w'=>∃ sp cap,e=.returned (.slice sp 0 cap)∧OwnHv w' w.heap.size (.slice sp 0 cap) []∧Below w.heap.size w w':=by
    by_cases h0:0<N
    ·exact (MJ N h0 zo w).mono fun e w' ⟨c,_,he,ho,hb⟩=>⟨_,c,he,⟨ho,by simp⟩,hb⟩
    ·obtain rfl:N=0:=by omega
     refine (GL w).mono ?_;rintro e w' ⟨rfl,rfl⟩;exact⟨none,0,rfl,OwnHv.nil _ _,Below.refl _ _⟩
   have HGR:=zh hgrow;clear hgrow;go_wp2_with fail;refine HGR.out.mono ?_;rintro e w1 ⟨spg,cg,rfl,hog,hbg⟩;have HB1:=zh hbg;have HOG:=zh hog;clear hog hbg HGR;go_wp2_with fail
   go_loopw [6,27] (fun v i wr=>∃ (j N:Nat) (sp:Option Addr) (cap:Nat),j≤2∧i=.int .i64 (j:Int)∧v=.slice sp N cap∧Hid (N=WJ n m j)∧Hid (OwnHv wr w.heap.size (.slice sp N cap) (cutL cl pl j))∧Hid (Below w.heap.size w wr)) (fun _ i _=>2-(intOf i).toNat)
   case atStart=>exact⟨0,0,_,_,by omega,rfl,rfl,rfl,HOG.out,HB1.out⟩
   case round =>
    rename_i wr2 _
    obtain⟨j,N,sp,cap,hj,rfl,rfl,HM,HOW,HBR⟩:=hrel;have c0:=(HT.out.below HBR.out hg).c0;have c1':=(HT.out.below HBR.out hg).c1;have hbs:=HBR.out.size;rcases (show j=0∨j=1∨j=2 by omega) with rfl | rfl | rfl
    ·obtain rfl:N=0:=HM.out;have HCr:=zh (HC.out.below HBR.out zl)
     go_wp2_with (at_builtin;refine jW rfl (.tmp 31) (.tmp 32) rfl w.heap.size _ [] 0 rfl rfl HOW.out _ _ _ _ cl rfl HCr.out HN1.out zo hbs ?_;intro sp5 cap5 w5 HO5 HB5 HG5)
     go_roundw
     case rel=>exact⟨1,n,sp5,cap5,by omega,by go_num,by first | rfl | trivial,rfl,(show OwnHv _ _ _ _ from by have h:=HO5.out;rw[Nat.zero_add] at h;exact h),HBR.out.trans HB5.out⟩
     case measure=>simp[intOf]
    ·obtain rfl:N=n:=HM.out;have HPr:=zh (HP.out.below HBR.out zl);have HLN:=zh (HC.out.len.symm)
     go_wp2_with (at_builtin;refine jW rfl (.tmp 31) (.tmp 32) rfl w.heap.size _ cl N HLN.out rfl HOW.out _ _ _ _ pl rfl HPr.out HN2.out zo hbs ?_;intro sp5 cap5 w5 HO5 HB5 HG5)
     go_roundw
     case rel=>exact⟨2,N+m,sp5,cap5,by omega,by go_num,by first | rfl | trivial,rfl,HO5.out,HBR.out.trans HB5.out⟩
     case measure=>simp[intOf]
    ·obtain rfl:N=n+m:=HM.out;go_wp2_with fail;go_ret;exact⟨sp,cap,rfl,HOW.out,HBR.out⟩
end Go.Proofs.YtaeobegaodhpcaaGreatDoor
namespace Go.Proofs
open Go.Shelf
def Tryz.lays173_ren:Go.Shelf.Ren:=⟨fun | 173=>73 | 246=>114 | 283=>143 | 284=>144 | 285=>145 | 286=>146 | 129=>165 | 317=>164 | 318=>166 | 319=>167 | 320=>168 | 337=>176 | 338=>177 | n=>n,fun | 2=>2 | 3=>3 | 9=>9 | 4=>4 | 171=>166 | 0=>0 | 53=>88 | 37=>22 | 5=>5 | 173=>169 | 212=>193 | 51=>147 | 20=>20 | 213=>194 | 46=>112 | 232=>76 | 233=>184 | n=>n,fun | 17=>1 | 18=>5 | 19=>6 | n=>n⟩
theorem Tryz.lays173:Go.Proofs.LaysM.n173 Tryz.prog Tryz.lays173_ren:={
 mixed:=by kernel_rfl
 f129:=Tryz.func165.trans (congrArg some (by kernel_rfl))
 f173:=Tryz.func73.trans (congrArg some (by kernel_rfl))
 f246:=Tryz.func114.trans (congrArg some (by kernel_rfl))
 f283:=Tryz.func143.trans (congrArg some (by kernel_rfl))
 f284:=Tryz.func144.trans (congrArg some (by kernel_rfl))
 f285:=Tryz.func145.trans (congrArg some (by kernel_rfl))
 f286:=Tryz.func146.trans (congrArg some (by kernel_rfl))
 f317:=Tryz.func164.trans (congrArg some (by kernel_rfl))
 f318:=Tryz.func166.trans (congrArg some (by kernel_rfl))
 f319:=Tryz.func167.trans (congrArg some (by kernel_rfl))
 f320:=Tryz.func168.trans (congrArg some (by kernel_rfl))
 f337:=Tryz.func176.trans (congrArg some (by kernel_rfl))
 f338:=Tryz.func177.trans (congrArg some (by kernel_rfl))
 t0:=Tryz.underlying0
 a0:=Tryz.isAgg0
 z0:=Tryz.sizeOf0
 v0:=Tryz.zeroValue0
 t2:=Tryz.underlying2
 a2:=Tryz.isAgg2
 z2:=Tryz.sizeOf2
 v2:=Tryz.zeroValue2
 t3:=Tryz.underlying3
 a3:=Tryz.isAgg3
 z3:=Tryz.sizeOf3
 v3:=Tryz.zeroValue3
 t4:=Tryz.underlying4
 a4:=Tryz.isAgg4
 z4:=Tryz.sizeOf4
 v4:=Tryz.zeroValue4
 t5:=Tryz.underlying5
 a5:=Tryz.isAgg5
 z5:=Tryz.sizeOf5
 v5:=Tryz.zeroValue5
 t9:=Tryz.underlying9
 a9:=Tryz.isAgg9
 z9:=Tryz.sizeOf9
 v9:=Tryz.zeroValue9
 t20:=Tryz.underlying20
 a20:=Tryz.isAgg20
 z20:=Tryz.sizeOf20
 v20:=Tryz.zeroValue20
 t37:=Tryz.underlying22
 a37:=Tryz.isAgg22
 z37:=Tryz.sizeOf22
 v37:=Tryz.zeroValue22
 t46:=Tryz.underlying112
 a46:=Tryz.isAgg112
 z46:=Tryz.sizeOf112
 v46:=Tryz.zeroValue112
 t51:=Tryz.underlying147
 a51:=Tryz.isAgg147
 z51:=Tryz.sizeOf147
 v51:=Tryz.zeroValue147
 t53:=Tryz.underlying88
 a53:=Tryz.isAgg88
 z53:=Tryz.sizeOf88
 v53:=Tryz.zeroValue88
 t171:=Tryz.underlying166
 a171:=Tryz.isAgg166
 z171:=Tryz.sizeOf166
 v171:=Tryz.zeroValue166
 t173:=Tryz.underlying169
 a173:=Tryz.isAgg169
 z173:=Tryz.sizeOf169
 v173:=Tryz.zeroValue169
 t212:=Tryz.underlying193
 a212:=Tryz.isAgg193
 z212:=Tryz.sizeOf193
 v212:=Tryz.zeroValue193
 t213:=Tryz.underlying194
 a213:=Tryz.isAgg194
 z213:=Tryz.sizeOf194
 t232:=Tryz.underlying76
 a232:=Tryz.isAgg76
 z232:=Tryz.sizeOf76
 v232:=Tryz.zeroValue76
 t233:=Tryz.underlying184
 a233:=Tryz.isAgg184
 z233:=Tryz.sizeOf184
 v233:=Tryz.zeroValue184
 g17:=by kernel_rfl
 g18:=by kernel_rfl
 g19:=by kernel_rfl
 i0:=by kernel_rfl
 i2:=by kernel_rfl
 i3:=by kernel_rfl
 i4:=by kernel_rfl
 i5:=by kernel_rfl
 i9:=by kernel_rfl
 i20:=by kernel_rfl
 i37:=by kernel_rfl
 i46:=by kernel_rfl
 i51:=by kernel_rfl
 i53:=by kernel_rfl
 i171:=by kernel_rfl
 i173:=by kernel_rfl
 i212:=by kernel_rfl
 i232:=by kernel_rfl
 i233:=by kernel_rfl
 m17:=by kernel_rfl
 m18:=by kernel_rfl
 m19:=by kernel_rfl }
end Go.Proofs
namespace Go.Proofs.YtaeobegaodhpcaaGreatDoor
open Go.RowKit
theorem wZ (n : Int) (h0 : -9223372036854775808 ≤ n) (h1 : n ≤ 9223372036854775807) (w : World) (ht : Lib.TabIs Tryz.prog w "internal/strconv.uint64pow10" .u64 Lib.pow10Tab) :
 Calls Tryz.prog 73 #[.int .i64 n,.int .i64 10] w fun e w'=>e=.returned (.string ⟨(Lib.itoa n).toArray⟩)∧Below w.heap.size w w' :=
 (Any.strconv_FormatInt_10 Tryz.lays173 n h0 h1 w ht).mono fun e w' ⟨he,k,os,hw⟩=>⟨he,by rw[hw];exact Lib.below_grow _ _ zl _ _⟩
theorem uM (n : Int) (h0 : -9223372036854775808 ≤ n) (h1 : n ≤ 9223372036854775807) (w : World) (ht : Lib.TabIs Tryz.prog w "internal/strconv.uint64pow10" .u64 Lib.pow10Tab) :
 Calls Tryz.prog 39 #[.int .i64 n] w fun e w'=>e=.returned (.string ⟨(Lib.itoa n).toArray⟩)∧Below w.heap.size w w':=by
 have HC:=zh (wZ n h0 h1 w ht);clear h0 h1 ht
 go_enter Tryz.func39,Tryz.ntmps39
 go_wp2_with fail;refine HC.out.mono ?_;rintro e w1 ⟨rfl,b1⟩;go_wp2_with fail;go_ret;exact⟨rfl,b1⟩
end Go.Proofs.YtaeobegaodhpcaaGreatDoor
namespace Go.Proofs.YtaeobegaodhpcaaGreatDoor
open Go.RowKit Go.Proofs.YtaeobegaodhpcaaGreatDoor.One
structure TabS (w:World) (g n k:Nat) (E:Nat→ByteArray):Prop where
 typ:∃ cur,w.heap[g]? = some (.cells cur 9 (0,0))∧cur.size=n∧∀ i,i<k→cur[i]? = some (.string (E i))
theorem TabS.below {w w':World} {g n k B:Nat} {E:Nat→ByteArray} (h:TabS w g n k E) (hb:Below B w w') (hg:g<B):TabS w' g n k E:=by
 obtain⟨cur,h1,h2,h3⟩:=h.typ;exact⟨cur,(hb.block g hg).trans h1,h2,h3⟩
theorem TabS.at_ {w:World} {g n k:Nat} {E:Nat→ByteArray} (h:TabS w g n k E) (hk:k<n):∃ v,w.cell? ⟨g,k,none⟩=some v∧w.frozen? ⟨g,k,none⟩=false:=by
 obtain⟨cur,h1,h2,_⟩:=h.typ;exact⟨cur[k]'(by omega),by rw[cell_of_row w g k _ _ _ h1,Array.getElem?_eq_getElem],frozen_of_row _ _ _ _ _ h1⟩
theorem TabS.put {w:World} {g n k:Nat} {E:Nat→ByteArray} (h:TabS w g n k E) (hk:k<n):TabS (w.setCell ⟨g,k,none⟩ (.string (E k))) g n (k+1) E:=by
 obtain⟨cur,h1,h2,h3⟩:=h.typ;refine⟨_,heap_setCell_same _ _ _ _ _ _ h1,by simp[h2],fun i hi=>?_⟩;by_cases e:i=k
 ·subst e;rw[Array.getElem?_setIfInBounds_self_of_lt zo]
 ·rw[Array.getElem?_setIfInBounds_ne zo];exact h3 i zo
theorem TabS.own {w:World} {base g n:Nat} {xs:List Value} {E:Nat→ByteArray} (h:w.ownsRow base 9 1 (.slice (some ⟨g,0,none⟩) n n) n xs):TabS w g n 0 E:=by
 obtain⟨h0,h | ⟨g',c,cur,e,hg,h1,h2,h3,h4,h5⟩⟩:=h
 ·have e:=h.1;simp at e
 ·simp only[Value.slice.injEq,Option.some.injEq,Addr.mk.injEq] at e;obtain⟨⟨rfl,_,_⟩,_,rfl⟩:=e;exact⟨cur,h1,by omega,fun i hi=>absurd hi zo⟩
theorem TabS.ownW {w:World} {base g n:Nat} {E:Nat→ByteArray} (h:TabS w g n n E) (hb:base≤g) (hn:n≤1000000):OwnW w base (.slice (some ⟨g,0,none⟩) n n) ((List.range n).map E):=by
 obtain⟨cur,h1,h2,h3⟩:=h.typ;unfold OwnW;rw[show ((List.range n).map E).length=n by simp];refine⟨by simp,.inr ⟨g,n,cur,rfl,hb,h1,Nat.le_refl _,by unfold maxLen;omega,by omega,?_⟩⟩;rw[List.take_of_length_le (by rw[Array.length_toList];omega)];apply List.ext_getElem?;intro j;by_cases hj:j<n
 ·rw[Array.getElem?_toList,h3 j hj,List.getElem?_map,List.getElem?_map,List.getElem?_range hj];rfl
 ·rw[List.getElem?_eq_none (by rw[Array.length_toList];omega),List.getElem?_eq_none (by simp;omega)]
theorem OU (F:FuncId) (p0 n:Nat) (E:Nat→ByteArray) (w:World) (hn:n≤1000000) (eg:∀ args w,(callFunc F args).run Tryz.prog w=.ok (.enter F args) w)
 (hC:∀ k,k<n→∀ w':World,Below w.heap.size w w'→Calls Tryz.prog F #[.int .i64 (k:Int),.pointer (some ⟨p0,0,none⟩)] w' fun e w''=>e=.returned (.string (E k))∧Below w'.heap.size w' w'') :
 Calls Tryz.prog 76 #[.int .i64 n,.func (.func F) #[] #[.pointer (some ⟨p0,0,none⟩)]] w fun e w'=>e=.returned (.slice (some ⟨w.heap.size,0,none⟩) n n)∧OwnW w' w.heap.size (.slice (some ⟨w.heap.size,0,none⟩) n n) ((List.range n).map E)∧Below w.heap.size w w':=by
 have HC:=zh hC;clear hC;obtain⟨i0,hi0,hz0,hz1,hz2⟩:=info_parts vL;have HI0:=zh hi0;have HZ0:=zh hz0;have HZ1:=zh hz1;have HZ2:=zh hz2;clear hi0 hz0 hz1 hz2
 go_enter Tryz.func76,Tryz.ntmps76
 go_wp2_with (refine wpList_make_full _ rfl _ _ 55 rfl w.heap.size 9 i0 _ 1 Tryz.underlying55 HI0.out HZ0.out HZ1.out .i64 .i64 _ _ n rfl rfl rfl rfl (by rw[HZ2.out];omega) (by unfold maxLen;omega) zl ?_;intro w1 hown1 hg1;have HT1:Hid (TabS w1 w.heap.size n 0 E):=TabS.own hown1;have HB1:Hid (Bw w w1):=(Below.refl _ w).grown hg1 zl (fun k e=>by cases e);have hs1:w.heap.size<w1.heap.size:=(hown1.lt _ rfl).2;clear hown1 hg1)
 go_loopw [11] (fun i wr=>∃ k:Nat,k≤n∧i=.int .i64 k∧Hid (TabS wr w.heap.size n k E)∧Hid (Below w.heap.size w wr)∧w.heap.size<wr.heap.size) (fun i _=>n-(intOf i).toNat)
 case atStart=>exact⟨0,by omega,rfl,HT1.out,HB1.out,hs1⟩
 case round =>
  clear HT1 HB1 hs1;obtain⟨k,hk,rfl,HT,HB,hs⟩:=hrel;by_cases hlt:k<n
  ·have hd1:decide ((k:Int)<(n:Int))=true:=by simp;omega
   have p1:(0:Int)≤(k:Int):=by omega
   have p2:(k:Int)<(n:Int):=by omega
   have HCK:=zh (HC.out k hlt wr HB.out);go_wp2_with fail;refine HCK.out.mono ?_;rintro e w5 ⟨rfl,hb5⟩;have HB5:=zh hb5;clear hb5;have HT5:=zh (HT.out.below HB5.out hs);have hs5:w.heap.size<w5.heap.size:=by have:=HB5.out.size;omega
   obtain⟨v0,cc,ff⟩:=HT5.out.at_ hlt;go_wp2_with fail;clear cc ff;have HP:=zh (HT5.out.put hlt);have HBP:Hid (Below w.heap.size w (w5.setCell ⟨w.heap.size,k,none⟩ (.string (E k)))):=(HB.out.trans (HB5.out.mono zo)).setCell (by show w.heap.size≤w.heap.size;omega) _;have hsp:w.heap.size<(w5.setCell ⟨w.heap.size,k,none⟩ (.string (E k))).heap.size:=by simp[World.setCell];omega
   generalize World.setCell w5 _ _=w7 at *;go_roundw
   case rel=>exact⟨k+1,by omega,by go_num,HP,HBP,hsp⟩
   case measure=>simp[intOf];omega
  ·obtain rfl:k=n:=by omega
   have hd1:decide ((k:Int)<(k:Int))=false:=by simp
   go_wp2_with fail;go_ret;exact⟨rfl,HT.out.ownW zl hn,HB.out⟩
theorem OL (k p0:Nat) (sp:Option Addr) (n cap:Nat) (l:List (List Int)) (w:World) (hc:w.cell? ⟨p0,0,none⟩=some (.slice sp n cap)) (hl:HvsIn w w.heap.size sp n cap l) (hk:k<n) :
 Calls Tryz.prog 77 #[.int .i64 (k:Int),.pointer (some ⟨p0,0,none⟩)] w fun e w'=>e=.returned (.string (iV (l.getD k [])))∧Below w.heap.size w w':=by
 obtain⟨sb,so,rfl,hsb,hcc,hrr⟩:=hl.cells zo;have HYR:=zh (hrr k hk);have cQ:=zh (hl.at16 hk);clear hrr hl;have p1:(0:Int)≤(k:Int):=by omega
 have p2:(k:Int)<(n:Int):=by omega
 have p3:(n:Int)≤(cap:Int):=by omega
 generalize l.getD k []=y at *;have HIY:=zh (bS cQ.out);have HCF:=zh (lX y w cQ.out.1 cQ.out.2)
 go_enter Tryz.func77,Tryz.ntmps77
 go_wp2_with (refine wpList_load_mid rfl 42 _ rfl sb (so+k*16) rfl _ _ HYR.out Tryz.underlying42 rfl HIY.out ?_)
 refine HCF.out.mono ?_;rintro e w6 ⟨rfl,hb6⟩;go_wp2_with fail;go_ret;exact⟨rfl,hb6⟩
theorem oD {w:World} {ops:Array Oper} {rest:List Oper} {o:Oper} {a:Act} {Q:Exit→Act→World→Prop} (hgd:o.guard=none) (s x:Operand)
 (ho:o.op=.call { callee:=.builtin .append,args:=#[s,x],argTypes:=#[55,55] }) (base:Nat) (v:Value) (l:List ByteArray) (n:Nat) (hn:n=l.length) (hs:a.eval s=v) (hown:OwnW w base v l)
 (ad:Addr) (m cap2 B:Nat) (l2:List ByteArray) (hx:a.eval x=.slice (some ad) m cap2) (hsrc:StrsIn w B (some ad) m l2) (hlen:n+m≤1000000) (hbase:base≤w.heap.size)
 (h:∀ sp cap w',Hid (OwnW w' base (.slice sp (n+m) cap) (l++l2))→Hid (Below base w w')→wpList Tryz.prog ops Q rest (a.put o.dst (.slice sp (n+m) cap)) w'):wpList Tryz.prog ops Q (o :: rest) a w:=by
 subst hn;obtain⟨i0,hi0,hz0,hz1,hz2⟩:=info_parts vL;have hl2:=hsrc.len;refine wpList_append_own w hgd s x _ ho base _ i0 _ 1 16 Tryz.underlying55 hi0 hz0 hz1 hz2 rfl (by decide) v l.length _ hs hown ad m cap2 (l2.map Value.string) hx (by rw[List.length_map,hl2];omega) ?_ (fun u hu=>by obtain⟨i,_,rfl⟩:=List.mem_map.1 hu;rfl) (by unfold maxLen;omega) zo hbase ?_
 ·intro j u hj;have hjl:j<l2.length:=by have:=(List.getElem?_eq_some_iff.1 hj).1;simpa using this
  obtain⟨b,off,e,_,hr⟩:=hsrc.cells zo;injection e with e;subst e
  rw[Addr.add_mid,hr j hjl];rw[List.getElem?_map,List.getElem?_eq_getElem hjl] at hj;exact hj
 ·intro v' w' h1 h2 _;obtain⟨sp,cap,rfl⟩:=aM h1;exact h sp cap w' (show OwnW _ _ _ _ by unfold OwnW;rw[List.length_append,List.map_append,hl2];exact h1) ((Below.refl base w).grown h2 hbase (bO hown))
theorem FZ (l:List (List Int)) (n:Nat) (h:l.length=n):(List.range n).map (fun k=>iV (l.getD k []))=l.map iV:=by
 subst h;apply List.ext_getElem?;intro j;by_cases hj:j<l.length
 ·rw[List.getElem?_map,List.getElem?_range hj,List.getElem?_map,List.getElem?_eq_getElem hj,Option.map_some,List.getD_eq_getElem?_getD,List.getElem?_eq_getElem hj];rfl
 ·rw[List.getElem?_eq_none (by simp;omega),List.getElem?_eq_none (by simp;omega)]
def P10In (w : World) : Prop := Lib.TabIs Tryz.prog w "internal/strconv.uint64pow10" .u64 Lib.pow10Tab
theorem g10 : Tryz.prog.globalNamed "internal/strconv.uint64pow10" = some 1 := by kernel_rfl
theorem P10In.below {w w':World} {B:Nat} (h:P10In w) (hb:Below B w w') (hlt:1<B):P10In w':=by
 unfold P10In Lib.TabIs World.var? at h ⊢;rw[g10] at h ⊢;simp only[Option.bind_some] at h ⊢;rw[hb.block _ hlt];exact h
structure HsBox (w:World) (v:Value) (w0:World):Prop where
 c:w0.cell? ⟨w.heap.size,0,none⟩=some v
 b:Below w.heap.size w w0
 s:w0.heap.size=w.heap.size+1
theorem HsBox.new (w:World) (v:Value):HsBox w v (w.alloc (.cells #[v] 46)):=⟨aG (L:=[v]) (heap_alloc_new w _) rfl,aA _ _,aF _ _⟩
theorem IT (l:Int) (sp1:Option Addr) (n c1:Nat) (cl:List (List Int)) (sp2:Option Addr) (m c2:Nat) (pl:List (List Int)) (w:World) (h0 : -9223372036854775808≤l) (h1:l≤9223372036854775807) (hc:HvsIn w w.heap.size sp1 n c1 cl) (hp:HvsIn w w.heap.size sp2 m c2 pl) (hn1:sp1=none→c1=0) (hn2:sp2=none→c2=0) (hn:n≤1000) (hm:m≤1000)
 (ht:P10In w) (ht0:1<w.heap.size) :
 Calls Tryz.prog 41 #[.agg (siA l (.slice sp1 n c1) (.slice sp2 m c2))] w fun e w'=>∃ sp cap,e=.returned (.slice sp (1+n+m) cap)∧OwnW w' w.heap.size (.slice sp (1+n+m) cap) (lP l cl pl)∧Below w.heap.size w w':=by
 have HCL:=zh hc;have HPL:=zh hp;have HN1:=zh hn1;have HN2:=zh hn2;have HT10:=zh ht;clear hc hp hn1 hn2 ht;have HT:=zh (SxBox.new w l (.slice sp1 n c1) (.slice sp2 m c2))
 go_enter Tryz.func41,Tryz.ntmps41
 go_upto_region 1 with (fail)
 generalize hw0:World.alloc w _=w0;have HT0:Hid (SxBox w l (.slice sp1 n c1) (.slice sp2 m c2) w0):=by rw[←hw0];exact HT.out
 clear hw0 HT;have hs0:w.heap.size+1≤w0.heap.size:=Nat.le_of_eq HT0.out.k.symm;have k3:=sP HT0.out.s;have k4:=sK HT0.out.s;have HTW:Hid (TwoS (w0.alloc (.cells #[.slice sp1 n c1,.slice sp2 m c2] 46)) w0.heap.size (.slice sp1 n c1) (.slice sp2 m c2)):=⟨heap_alloc_new w0 _⟩;have HTB:=zh (aA w0 (.cells #[.slice sp1 n c1,.slice sp2 m c2] 46));have HTS:=zh (aF w0 (.cells #[.slice sp1 n c1,.slice sp2 m c2] 46));go_wp2_with fail;clear k3 k4;generalize hw1:World.alloc w0 _=w1;rw[hw1] at HTW HTB HTS;clear hw1;have hs1:w0.heap.size+1≤w1.heap.size:=Nat.le_of_eq HTS.out.symm;have uO:Hid (Bw w w1):=HT0.out.b.trans (HTB.out.mono zo);have HS1:Hid (Ah w1 w.heap.size (siA l (.slice sp1 n c1) (.slice sp2 m c2)) 48):=(HTB.out.block _ zo).trans HT0.out.s;refine (CF w0.heap.size sp1 n c1 cl sp2 m c2 pl w1 HTW.out zo ((HCL.out.below uO.out zl).more zo) ((HPL.out.below uO.out zl).more zo) HN1.out HN2.out hn hm).mono ?_;rintro e w2 ⟨sph,caph,rfl,ho,hb⟩;have hlen:(cl++pl).length=n+m:=by rw[List.length_append,HCL.out.len,HPL.out.len]
 have HHV:=zh (ho.hvs hlen);have uN:Hid (Bw w w2):=uO.out.trans (hb.mono zo);have HS2:Hid (Ah w2 w.heap.size (siA l (.slice sp1 n c1) (.slice sp2 m c2)) 48):=(hb.block _ zo).trans HS1.out;have hs2:w.heap.size+2≤w2.heap.size:=by have:=hb.size;omega
 have HLN:=zh hlen;clear ho hb HTW HTB HTS HS1 HT0 uO hlen;have HBX:=zh (HsBox.new w2 (.slice sph (n+m) caph));have cbx:=HBX.out.c;obtain⟨N,hN⟩:∃ N,n+m=N:=⟨_,rfl⟩;have HNN:=zh hN;have hN2:N≤2000:=by omega
 rw[hN] at HLN HHV HBX cbx ⊢;clear hN;go_wp2_with fail;clear cbx;generalize hw3:World.alloc w2 _=w3;rw[hw3] at HBX;clear hw3;have hs3:w2.heap.size+1≤w3.heap.size:=Nat.le_of_eq HBX.out.s.symm
 have HC:=zh (OU 77 w2.heap.size N (fun k=>iV ((cl++pl).getD k [])) w3 zo (enters_of Tryz.func77 (by kernel_rfl) rfl)
  (fun k hk w' hb=>OL k w2.heap.size sph N caph (cl++pl) w' ((hb.cell (p:=⟨w2.heap.size,0,none⟩) (by show w2.heap.size<_;omega)).trans HBX.out.c)
   (((HHV.out.below HBX.out.b zl).below (hb.mono (by omega:w2.heap.size≤w3.heap.size)) zl).more (by have:=hb.size;omega)) hk))
 refine HC.out.mono ?_;rintro e w4 ⟨rfl,ho,hb⟩;rw[FZ _ _ HLN.out] at ho;have HO4:=zh ho;have YD:Hid (Bw w w3):=uN.out.trans (HBX.out.b.mono zo);have xE:Hid (Bw w w4):=YD.out.trans (hb.mono zo);have HS4:Hid (Ah w4 w.heap.size (siA l (.slice sp1 n c1) (.slice sp2 m c2)) 48):=(hb.block _ zo).trans ((HBX.out.b.block _ zo).trans HS2.out);have hs4:=hb.size;clear ho hb HC HBX HHV HS2 uN;have k2:=rI HS4.out;go_wp2_with fail;clear k2;refine (uM l h0 h1 w4 (HT10.out.below xE.out ht0)).mono ?_;rintro e w5 ⟨rfl,hb⟩;have HO5:=zh (HO4.out.below hb);have HBW5:Hid (Bw w w5):=xE.out.trans (hb.mono zo);have hs5:=hb.size;clear hb HO4 HS4 xE;have HSL:Hid (OwnW (w5.alloc (.cells #[.string (mE l)] 9)) w5.heap.size (.slice (some ⟨w5.heap.size,0,none⟩) 1 1) [mE l]):=World.ownsRow_lit w5 #[.string (mE l)] 1 zl (by unfold maxLen;omega) rfl;have HSB:=zh (aA w5 (.cells #[.string (mE l)] 9));have HL2:Hid (((cl++pl).map iV).length=N):=by show _=_;rw[List.length_map];exact HLN.out
 go_wp2_with (at_builtin;generalize hw6:World.alloc w5 _=w6;have HO6:Hid (OwnW w6 w.heap.size (.slice (some ⟨w5.heap.size,0,none⟩) 1 1) [mE l]):=(by rw[←hw6];exact HSL.out.base zo);have HB6:Hid (Bw w5 w6):=(by rw[←hw6];exact HSB.out);clear hw6 HSL HSB;have hs6:=HB6.out.size;have HSR:=zh ((HO5.out.below HB6.out).strs HL2.out);refine oD rfl (.tmp 18) (.tmp 19) rfl w.heap.size _ [mE l] 1 rfl rfl HO6.out ⟨w3.heap.size,0,none⟩ N N w6.heap.size ((cl++pl).map iV) rfl HSR.out zo zo ?_;intro sp8 cap8 w8 HO8 HB8)
 have HBW8:Hid (Bw w w8):=HBW5.out.trans ((HB6.out.mono zo).trans HB8.out);go_ret;refine⟨sp8,cap8,?_,?_,HBW8.out⟩
 ·rw[Nat.add_assoc,HNN.out];rfl
 ·rw[Nat.add_assoc,HNN.out];have e:lP l cl pl=[mE l]++(cl++pl).map iV:=by unfold lP;rw[List.map_append,List.append_assoc]
  rw[e];exact HO8.out
end Go.Proofs.YtaeobegaodhpcaaGreatDoor
