/-
  The walk of the reference's function for the round constants, and the memory of its function for one block (for every world).
-/
import Derived.Test.YtaeobegaodhpcaaGreatDoorZip
import Derived.Test.YtaeobegaodhpcaaGreatDoorQ2
import Derived.Deep.RegionHeld3
set_option maxRecDepth 100000
set_option maxHeartbeats 8000000
namespace Go.Proofs.YtaeobegaodhpcaaGreatDoor
open Go.RowKit
def iT:Array Value:=(kay.map (Value.int .u32)).toArray
theorem RJ (w:World):(Instr.build 163 #[(0,.int .u32 1116352408),(1,.int .u32 1899447441),(2,.int .u32 3049323471),(3,.int .u32 3921009573),(4,.int .u32 961987163),(5,.int .u32 1508970993),(6,.int .u32 2453635748),(7,.int .u32 2870763221),(8,.int .u32 3624381080),(9,.int .u32 310598401),(10,.int .u32 607225278),(11,.int .u32 1426881987),(12,.int .u32 1925078388),(13,.int .u32 2162078206),(14,.int .u32 2614888103),(15,.int .u32 3248222580),(16,.int .u32 3835390401),(17,.int .u32 4022224774),(18,.int .u32 264347078),(19,.int .u32 604807628),(20,.int .u32 770255983),(21,.int .u32 1249150122),(22,.int .u32 1555081692),(23,.int .u32 1996064986),(24,.int .u32 2554220882),(25,.int .u32 2821834349),(26,.int .u32 2952996808),(27,.int .u32 3210313671),(28,.int .u32 3336571891),(29,.int .u32 3584528711),(30,.int .u32 113926993),(31,.int .u32 338241895),(32,.int .u32 666307205),(33,.int .u32 773529912),(34,.int .u32 1294757372),(35,.int .u32 1396182291),(36,.int .u32 1695183700),(37,.int .u32 1986661051),(38,.int .u32 2177026350),(39,.int .u32 2456956037),(40,.int .u32 2730485921),(41,.int .u32 2820302411),(42,.int .u32 3259730800),(43,.int .u32 3345764771),(44,.int .u32 3516065817),(45,.int .u32 3600352804),(46,.int .u32 4094571909),(47,.int .u32 275423344),(48,.int .u32 430227734),(49,.int .u32 506948616),(50,.int .u32 659060556),(51,.int .u32 883997877),(52,.int .u32 958139571),(53,.int .u32 1322822218),(54,.int .u32 1537002063),(55,.int .u32 1747873779),(56,.int .u32 1955562222),(57,.int .u32 2024104815),(58,.int .u32 2227730452),(59,.int .u32 2361852424),(60,.int .u32 2428436474),(61,.int .u32 2756734187),(62,.int .u32 3204031479),(63,.int .u32 3329325298)]).run Tryz.prog w=.ok (.agg iT) w:=by kernel_rfl
theorem tY:iT.all (·.oneCell')=true:=aW _ _
theorem vY (w:World) :
 Calls Tryz.prog 142 #[] w fun e w'=>e=.returned (.agg iT)∧Below w.heap.size w w':=by
 have hk:=RJ;have H0:=zh (heap_alloc_new w (.cells (Array.replicate 64 (Value.int .u32 0)) 163));have HB:=zh (aA w (.cells (Array.replicate 64 (Value.int .u32 0)) 163));have HI:Hid ((Tryz.prog.info? 163).map (·.size)=some iT.size):=Tryz.info64u;have HS:Hid ((Array.replicate 64 (Value.int .u32 0)).size=iT.size):=by show _=_;simp[iT,lD]
 go_enter Tryz.func142,Tryz.ntmps142
 go_wp2_with (generalize hw0:World.alloc w _=w0;have hz:w0.heap[w.heap.size]? = some (.cells (Array.replicate 64 (Value.int .u32 0)) 163 (0,0)):=(by rw[←hw0];exact H0.out);have hb:Below w.heap.size w w0:=(by rw[←hw0];exact HB.out);have HZ:=zh hz;clear hw0 hz;refine wpList_store_row rfl 163 _ _ rfl w.heap.size iT rfl rfl 163 _ HZ.out HI.out HS.out tY ?_)
 exact bodyPost_ret (results_cell_row (P:=Tryz.prog) rfl _ _ w.heap.size 163 iT (0,0) _ rfl (setRow_heap _ _ _ _ _ _ HZ.out) Tryz.underlying163 rfl HI.out) rfl ⟨rfl,below_setRow hb zl _⟩
def yC (n x:Int):Int:=bits .or .u32 (x / 2 ^ n.toNat) (x*2 ^ (32-n).toNat % 4294967296)
theorem qO (x n:Int) (w:World) (h0:0≤n) (h1:n≤31) :
 Calls Tryz.prog 141 #[.int .u32 x,.int .i64 n] w fun e w'=>e=.returned (.int .u32 (yC n x))∧w=w':=by
 go_enter Tryz.func141,Tryz.ntmps141
 go_wp2
 go_ret;exact⟨rfl,rfl⟩
theorem ZG (x:Int):yC 2 x=rot 4 1073741824 x:=rfl
theorem ZF (x:Int):yC 6 x=rot 64 67108864 x:=rfl
theorem ZE (x:Int):yC 7 x=rot 128 33554432 x:=rfl
theorem UQ (x:Int):yC 11 x=rot 2048 2097152 x:=rfl
theorem UP (x:Int):yC 13 x=rot 8192 524288 x:=rfl
theorem UO (x:Int):yC 17 x=rot 131072 32768 x:=rfl
theorem UN (x:Int):yC 18 x=rot 262144 16384 x:=rfl
theorem UM (x:Int):yC 19 x=rot 524288 8192 x:=rfl
theorem UL (x:Int):yC 22 x=rot 4194304 1024 x:=rfl
theorem UK (x:Int):yC 25 x=rot 33554432 128 x:=rfl
structure BlkAt (B:Nat) (w wr:World) (st:St) (L:List Int):Prop where
 row:RowIn wr (B+2) 163 .u32 L
 res:RowIn wr (B+1) 148 .u32 (List.replicate 8 0)
 hst:RowIn wr B 148 .u32 st.list
 bel:Below B w wr
 size:wr.heap.size=B+3
theorem BlkAt.drew {B:Nat} {w wr:World} {st:St} {L:List Int} (h:BlkAt B w wr st L):BlkAt B w wr.drew st L:=⟨h.row,h.res,h.hst,h.bel.drew,h.size⟩
theorem BlkAt.drewN {B:Nat} {w wr:World} {st:St} {L:List Int} (h:BlkAt B w wr st L) (n:Nat):BlkAt B w (wr.drewN n) st L:=⟨h.row,h.res,h.hst,below_drewN h.bel n,h.size⟩
theorem BlkAt.put {B:Nat} {w wr:World} {st:St} {L:List Int} (h:BlkAt B w wr st L) (i:Nat) (v:Int):BlkAt B w (wr.setCell ⟨B+2,i,none⟩ (.int .u32 v)) st (L.set i v) :=
 ⟨h.row.put i v,h.res.put_other _ _ (by simp),h.hst.put_other _ _ (by simp),h.bel.setCell (by simp) _,by simp[World.setCell,h.size]⟩
theorem BlkAt.step {B:Nat} {w wr:World} {st:St} {l:List Int} (h:BlkAt B w wr st (aQ 64 l)) (hl:l.length<64) (v:Int):BlkAt B w (wr.setCell ⟨B+2,l.length,none⟩ (.int .u32 v)) st (aQ 64 (l++[v])):=by
 rw[←eO _ _ _ hl];exact h.put _ _
theorem BlkAt.start (w:World) (st:St):BlkAt w.heap.size w (((w.alloc (.cells (st.list.map (Value.int .u32)).toArray 148)).alloc (.cells (Array.replicate 8 (Value.int .u32 0)) 148)).alloc (.cells (Array.replicate 64 (Value.int .u32 0)) 163)) st (aQ 64 []):=by
 have h1:=mC w 148 .u32 st.list;have b1:=aA w (.cells (st.list.map (Value.int .u32)).toArray 148);have s1:=aF w (.cells (st.list.map (Value.int .u32)).toArray 148);generalize World.alloc w _=wa at *;have h2:RowIn (wa.alloc (.cells (Array.replicate 8 (Value.int .u32 0)) 148)) wa.heap.size 148 .u32 (List.replicate 8 0):=heap_alloc_new _ _;have b2:=aA wa (.cells (Array.replicate 8 (Value.int .u32 0)) 148);have s2:=aF wa (.cells (Array.replicate 8 (Value.int .u32 0)) 148);generalize World.alloc wa _=wb at *;have h3:RowIn (wb.alloc (.cells (Array.replicate 64 (Value.int .u32 0)) 163)) wb.heap.size 163 .u32 (aQ 64 []):=heap_alloc_new _ _;have b3:=aA wb (.cells (Array.replicate 64 (Value.int .u32 0)) 163);have s3:=aF wb (.cells (Array.replicate 64 (Value.int .u32 0)) 163);generalize World.alloc wb _=wc at *;exact⟨by rw[show w.heap.size+2=wb.heap.size by omega];exact h3,by rw[show w.heap.size+1=wa.heap.size by omega];exact h2.below b3 zo,(h1.below b2 zo).below b3 zo,(b1.trans (b2.mono zo)).trans (b3.mono zo),by omega⟩
theorem DB (st:St):(Tryz.prog.info? 148).map (·.size)=some (st.list.map (Value.int .u32)).toArray.size:=by
 rw[List.size_toArray,List.length_map,St.list_length];kernel_rfl
theorem OY (st:St):(Array.replicate 8 (Value.int .u32 0)).size=(st.list.map (Value.int .u32)).toArray.size:=by simp[St.list_length]
theorem JL (st:St):((List.replicate 8 0).map (Value.int .u32)).toArray.size=(st.list.map (Value.int .u32)).toArray.size:=by simp[St.list_length]
def SS (st s:St) (k:Nat):List Int:=(List.range 8).map fun i=>if i<k then ad (st.list.getD i 0) (s.list.getD i 0) else st.list.getD i 0
theorem BO (st s:St) (k:Nat):(SS st s k).length=8:=by simp[SS]
theorem LG (st s:St):SS st s 0=st.list:=rfl
theorem QD (st s:St) (k:Nat) (hk:k<8):(SS st s k).getD k 0=st.list.getD k 0:=by
 rcases (by omega:k=0∨k=1∨k=2∨k=3∨k=4∨k=5∨k=6∨k=7) with rfl | rfl | rfl | rfl | rfl | rfl | rfl | rfl <;> rfl
theorem QC (st s:St) (k:Nat) (hk:k<8):(SS st s k).set k (ad (st.list.getD k 0) (s.list.getD k 0))=SS st s (k+1):=by
 rcases (by omega:k=0∨k=1∨k=2∨k=3∨k=4∨k=5∨k=6∨k=7) with rfl | rfl | rfl | rfl | rfl | rfl | rfl | rfl <;> rfl
theorem Tryz.info49:(Tryz.prog.info? 148).map (·.size)=some 8:=by kernel_rfl
theorem RK (x0 x1 x2 x3 x4 x5 x6 x7:Int) (w:World):(Instr.build 148 #[(0,.int .u32 x0),(1,.int .u32 x1),(2,.int .u32 x2),(3,.int .u32 x3),(4,.int .u32 x4),(5,.int .u32 x5),(6,.int .u32 x6),(7,.int .u32 x7)]).run Tryz.prog w=.ok (.agg #[.int .u32 x0,.int .u32 x1,.int .u32 x2,.int .u32 x3,.int .u32 x4,.int .u32 x5,.int .u32 x6,.int .u32 x7]) w:=by kernel_rfl
theorem qC {w:World} {ops:Array Oper} {rest:List Oper} {o:Oper} {a:Act} {Q:Exit→Act→World→Prop} (hgd:o.guard=none) (p x:Operand) (ho:o.op=.store 148 p x)
 (g:Nat) (hp:a.eval p=.pointer (some ⟨g,0,none⟩)) (x0 x1 x2 x3 x4 x5 x6 x7:Int) (hx:a.eval x=.agg #[.int .u32 x0,.int .u32 x1,.int .u32 x2,.int .u32 x3,.int .u32 x4,.int .u32 x5,.int .u32 x6,.int .u32 x7])
 (L:List Int) (hrow:RowIn w g 148 .u32 L) (hL:L.length=8)
 (h:∀ w',RowIn w' g 148 .u32 [x0,x1,x2,x3,x4,x5,x6,x7]→Below g w w'→wpList Tryz.prog ops Q rest (a.put o.dst undef) w'):wpList Tryz.prog ops Q (o :: rest) a w:=by
 refine wpList_store_row hgd 148 p x ho g _ hp hx 148 _ hrow Tryz.info49 (by simp[hL]) (aW .u32 [x0,x1,x2,x3,x4,x5,x6,x7]) ?_;exact h _ (setRow_heap _ _ _ _ _ _ hrow) (below_setRow (Below.refl _ _) zl _)
def aCc (w:World) (st:St) (p:List Int) (e:Ending) (w':World):Prop:=e=.returned (.agg ((qV st p).list.map (Value.int .u32)).toArray)∧Below w.heap.size w w'
theorem NJ (bb off cap:Nat) (p:List Int) (st:St) (w:World) (_hcap:64≤cap)
 (hc:∀ j,j<64→w.cell? ⟨bb,off+j,none⟩=some (.int .u8 (p.getD j 0))) (hbb:bb<w.heap.size)
 (hp:∀ j,0≤p.getD j 0∧p.getD j 0<256) :
  Calls Tryz.prog 113 #[.agg (st.list.map (Value.int .u32)).toArray,.slice (some ⟨bb,off,none⟩) 64 cap] w (aCc w st p):=by
 have HC:=zh hc;clear hc;have HP:=zh hp;clear hp;have hB:=BlkAt.start w st;have h8:=DB st;have h8s:=OY st;have h81:=aW .u32 st.list;obtain⟨C,hC⟩:∃ C,C=(st.list.map (Value.int .u32)).toArray:=⟨_,rfl⟩;rw[←hC] at hB h8 h8s h81;rw[←hC];have HB:=zh hB;have H8:=zh h8;have H8s:=zh h8s;have HONE8:=zh h81;have HCC:=zh hC;clear hB h8 h8s h81 hC
 go_enter Tryz.func113,Tryz.ntmps113
 go_wp2_with fail
 go_loopw [6] (fun i wr=>∃ k:Nat,k≤16∧i=.int .i64 k∧BlkAt w.heap.size w wr st (aQ 64 (msg p k))) (fun i _=>16-(intOf i).toNat)
 case atStart=>exact⟨0,by omega,rfl,HB.out⟩
 case round =>
  clear HB;obtain⟨k,hk,rfl,hS⟩:=hrel;by_cases hlt:k<16
  ·have c0:wr.cell? ⟨bb,off+4*k,none⟩=some (.int .u8 (p.getD (4*k) 0)):=(hS.bel.cell (p:=⟨bb,off+4*k,none⟩) hbb).trans (HC.out (4*k) zo);have c1:wr.cell? ⟨bb,off+(4*k+1),none⟩=some (.int .u8 (p.getD (4*k+1) 0)):=(hS.bel.cell (p:=⟨bb,off+(4*k+1),none⟩) hbb).trans (HC.out (4*k+1) zo);have c2:wr.cell? ⟨bb,off+(4*k+2),none⟩=some (.int .u8 (p.getD (4*k+2) 0)):=(hS.bel.cell (p:=⟨bb,off+(4*k+2),none⟩) hbb).trans (HC.out (4*k+2) zo);have c3:wr.cell? ⟨bb,off+(4*k+3),none⟩=some (.int .u8 (p.getD (4*k+3) 0)):=(hS.bel.cell (p:=⟨bb,off+(4*k+3),none⟩) hbb).trans (HC.out (4*k+3) zo);have b0:=HP.out (4*k);have b1:=HP.out (4*k+1);have b2:=HP.out (4*k+2);have b3:=HP.out (4*k+3);generalize e0:p.getD (4*k) 0=x0 at *;generalize e1:p.getD (4*k+1) 0=x1 at *;generalize e2:p.getD (4*k+2) 0=x2 at *;generalize e3:p.getD (4*k+3) 0=x3 at *;have E:Hid (wd p k=bits .or .u32 (bits .or .u32 (bits .or .u32 (x0*16777216) (x1*65536)) (x2*256)) x3):=by
    subst e0 e1 e2 e3;rfl
   clear e0 e1 e2 e3;have hl:(aQ 64 (msg p k)).length=64:=cI _ _ (by rw[bP];omega);have ct:=hS.row.get k zo;have cf:=hS.row.free k;clear hl;have w0:IntKind.i64.wrap (4*(k:Int))=4*(k:Int):=by rw[IntKind.wrap_i64];omega
   have w1:IntKind.i64.wrap (4*(k:Int)+1)=4*(k:Int)+1:=by rw[IntKind.wrap_i64];omega
   have w2:IntKind.i64.wrap (4*(k:Int)+2)=4*(k:Int)+2:=by rw[IntKind.wrap_i64];omega
   have w3:IntKind.i64.wrap (4*(k:Int)+3)=4*(k:Int)+3:=by rw[IntKind.wrap_i64];omega
   go_wp2_with fail;go_region
   go_wp2
   go_roundw
   case rel =>
    refine⟨k+1,by omega,by go_num,?_⟩;have hs:=(hS.step (by rw[bP];omega) (wd p k)).drew;rw[bP,←DO,E.out] at hs;exact hs
   case measure=>simp[intOf];omega
  ·obtain rfl:k=16:=by omega
   rw[show ((16:Nat):Int)=16 from rfl]
   go_wp2
   go_loopw [7] (fun i wr=>∃ k:Nat,k≤48∧i=.int .i64 ((k:Int)+16)∧BlkAt w.heap.size w wr st (aQ 64 (cW (msg p 16) k))) (fun i _=>64-(intOf i).toNat)
   case atStart=>exact⟨0,by omega,rfl,hS⟩
   case round =>
    clear hS;obtain⟨k,hk,rfl,hS⟩:=hrel;by_cases hlt:k<48
    ·have hl:(aQ 64 (cW (msg p 16) k)).length=64:=cI _ _ (by rw[bZ,bP];omega);have c0:=hS.row.get k zo;have c1:=hS.row.get (k+1) zo;have c9:=hS.row.get (k+9) zo;have c14:=hS.row.get (k+14) zo;have c16:=hS.row.get (k+16) zo;have cf:=hS.row.free (k+16);have E:Hid (AN (cW (msg p 16) k) k=ad (ad (ad ((aQ 64 (cW (msg p 16) k)).getD k 0) (sm0 ((aQ 64 (cW (msg p 16) k)).getD (k+1) 0))) ((aQ 64 (cW (msg p 16) k)).getD (k+9) 0)) (sm1 ((aQ 64 (cW (msg p 16) k)).getD (k+14) 0))):=by
      have hn:(cW (msg p 16) k).length=k+16:=by rw[bZ,bP];omega
      rw[dU _ _ _ zo,dU _ _ _ zo,dU _ _ _ zo,dU _ _ _ zo];rfl
     clear hl;generalize (aQ 64 (cW (msg p 16) k)).getD k 0=y0 at *;generalize (aQ 64 (cW (msg p 16) k)).getD (k+1) 0=y1 at *;generalize (aQ 64 (cW (msg p 16) k)).getD (k+9) 0=y9 at *;generalize (aQ 64 (cW (msg p 16) k)).getD (k+14) 0=y14 at *;generalize (aQ 64 (cW (msg p 16) k)).getD (k+16) 0=y16 at *;go_wp2_with fail
     go_quiet ((go_at_call 141;exact fZ (qO _ _ _ zo zo)))
     obtain⟨nq1,hnq1⟩:∃ m,m=nq:=⟨_,rfl⟩;rw[←hnq1];clear hnq1;generalize hw2:wr.drewN nq1=wq;have HW2:=zh hw2;have d0:wq.cell? ⟨w.heap.size+2,k,none⟩=some (.int .u32 y0):=by rw[←hw2];exact c0
     have d9:wq.cell? ⟨w.heap.size+2,k+9,none⟩=some (.int .u32 y9):=by rw[←hw2];exact c9
     have d14:wq.cell? ⟨w.heap.size+2,k+14,none⟩=some (.int .u32 y14):=by rw[←hw2];exact c14
     have d16:wq.cell? ⟨w.heap.size+2,k+16,none⟩=some (.int .u32 y16):=by rw[←hw2];exact c16
     have df:wq.frozen? ⟨w.heap.size+2,k+16,none⟩=false:=by rw[←hw2];exact cf
     clear hw2 c0 c1 c9 c14 c16 cf;go_wp2_with fail
     go_quiet ((go_at_call 141;exact fZ (qO _ _ _ zo zo)))
     go_wp2_with fail;go_region
     go_wp2
     go_roundw
     case rel =>
      refine⟨k+1,by omega,by go_num,?_⟩;have hn:(cW (msg p 16) k).length=k+16:=by rw[bZ,bP];omega
      have hs:=((hS.drewN nq1).drewN (nq+1)).step zo (AN (cW (msg p 16) k) k);rw[hn,E.out] at hs;have hu:cW (msg p 16) (k+1)=cW (msg p 16) k++[AN (cW (msg p 16) k) k]:=rfl;rw[hu,E.out,←HW2.out];simpa [ad,sm0,sm1,xr,ZE,UN,UO,UM] using hs
     case measure=>simp[intOf];omega
    ·obtain rfl:k=48:=by omega
     have hfull:aQ 64 (cW (msg p 16) 48)=iM p:=gJ _ _ (by rw[bZ,bP]);rw[hfull] at hS;rw[show (((48:Nat):Int)+16)=64 from rfl];go_wp2_with fail;refine (vY wr).mono ?_;rintro e w1 ⟨rfl,hb1⟩;have hs1:=hb1.size;have HSZ:=zh hS.size;have hsz:w.heap.size+3≤wr.heap.size:=by rw[HSZ.out];exact Nat.le_refl _
     have hw1:=hS.row.below hb1 zo;have hst1:=hS.hst.below hb1 zo;have hres1:=hS.res.below hb1 zo;have hbe1:=hS.bel.trans (hb1.mono hS.bel.size);clear hS hb1;have HK:=zh (heap_alloc_new w1 (.cells (Array.replicate 64 (Value.int .u32 0)) 163));have HIK:Hid ((Tryz.prog.info? 163).map (·.size)=some iT.size):=Tryz.info64u;have HSK:Hid ((Array.replicate 64 (Value.int .u32 0)).size=iT.size):=by show _=_;simp[iT,lD]
     have HKO:=zh tY;have hka:iT=(kay.map (Value.int .u32)).toArray:=rfl;have HKA:=zh hka;clear hka;generalize iT=KA at *
     go_wp2_with (first
      | (refine wpList_store_row rfl 163 _ _ rfl w1.heap.size KA rfl rfl 163 _ HK.out HIK.out HSK.out HKO.out ?_;generalize hw2:World.setRow _ _ _=w2;have hb2:Below w1.heap.size w1 w2:=(by rw[←hw2];exact below_setRow (aA _ _) zl _);have hk2:RowIn w2 w1.heap.size 163 .u32 kay:=(by rw[←hw2];unfold RowIn;rw[←HKA.out];exact setRow_heap _ _ _ _ _ _ HK.out);have HS2:=zh (show w2.heap.size=w1.heap.size+1 by rw[←hw2];simp);have hst2:w2.heap[w.heap.size]? = some (.cells C 148 (0,0)):=(by rw[HCC.out];exact hst1.below hb2 zo);have HST2:=zh hst2;have HA:=zh (heap_alloc_new w2 (.cells (Array.replicate 8 (Value.int .u32 0)) 148));clear hw2 hst2)
      | (refine wpList_load_row rfl 148 _ rfl w.heap.size rfl 148 _ (0,0) _ HST2.out Tryz.underlying148 rfl H8.out ?_)
      | (refine wpList_store_row rfl 148 _ _ rfl w2.heap.size _ rfl rfl 148 _ HA.out H8.out H8s.out HONE8.out ?_;generalize hw3:World.setRow _ _ _=w3))
     have hr3:RowIn w3 w2.heap.size 148 .u32 st.list:=by rw[←hw3];show _=_;rw[←HCC.out];exact setRow_heap _ _ _ _ _ _ HA.out
     have hb3:Below w2.heap.size w2 w3:=by rw[←hw3];exact below_setRow (aA _ _) zl _
     have hs2':w1.heap.size<w2.heap.size:=by rw[HS2.out];omega
     have hk3:=hk2.below hb3 zo;have hw3':=(hw1.below hb2 zo).below hb3 zo;have hst3:RowIn w3 w.heap.size 148 .u32 st.list:=(hst1.below hb2 zo).below hb3 zo;have hres3:=(hres1.below hb2 zo).below hb3 zo;have hbe3:=(hbe1.trans (hb2.mono hbe1.size)).trans (hb3.mono zo);clear hw3 hst1 hres1 hw1 hbe1 hk2 hb2 hb3 HST2 HA HK HIK HSK HKO HKA HS2;have hidx:w.heap.size+3≤w1.heap.size:=by omega
     have HK3:=zh hk3;have HW3:=zh hw3';have YI:=zh hst3;have aAx:=zh hres3;have HBE3:=zh hbe3;have YM:=zh hidx;have HR3:=zh hr3;have HS2L:=zh hs2';clear hk3 hw3' hst3 hres3 hbe3 hidx hr3 hs1 hsz hs2' hfull
     go_loopw [12] (fun i wr=>∃ k:Nat,k≤64∧i=.int .i64 k∧RowIn wr w2.heap.size 148 .u32 (PN (iM p) st k).list∧Below w2.heap.size w3 wr) (fun i _=>64-(intOf i).toNat)
     case atStart=>exact⟨0,by omega,rfl,HR3.out,Below.refl _ _⟩
     case round =>
      clear HR3;obtain⟨k,hk64,rfl,hrow,hber⟩:=hrel;by_cases hlt3:k<64
      ·have hkc:=(HK3.out.below hber HS2L.out).get k (by rw[lD];exact hlt3);have hwc:=(HW3.out.below hber (by have:=YM.out;have:=HS2L.out;omega)).get k (by rw[gQ];exact hlt3);have E:Hid (PN (iM p) st (k+1)=rnd (kay.getD k 0) ((iM p).getD k 0) (PN (iM p) st k)):=rfl;generalize kay.getD k 0=kk at *;generalize (iM p).getD k 0=ww at *;generalize PN (iM p) st k=s at *;obtain⟨sa,sb,sc,sd,se,sf,sg,sh⟩:=s;have pa:wr.cell? ⟨w2.heap.size,0,none⟩=some (.int .u32 sa):=by exact hrow.get 0 (by simp[St.list])
       have pb:wr.cell? ⟨w2.heap.size,1,none⟩=some (.int .u32 sb):=by exact hrow.get 1 (by simp[St.list])
       have pc:wr.cell? ⟨w2.heap.size,2,none⟩=some (.int .u32 sc):=by exact hrow.get 2 (by simp[St.list])
       have pd:wr.cell? ⟨w2.heap.size,3,none⟩=some (.int .u32 sd):=by exact hrow.get 3 (by simp[St.list])
       have pe:wr.cell? ⟨w2.heap.size,4,none⟩=some (.int .u32 se):=by exact hrow.get 4 (by simp[St.list])
       have pf:wr.cell? ⟨w2.heap.size,5,none⟩=some (.int .u32 sf):=by exact hrow.get 5 (by simp[St.list])
       have pg:wr.cell? ⟨w2.heap.size,6,none⟩=some (.int .u32 sg):=by exact hrow.get 6 (by simp[St.list])
       have ph:wr.cell? ⟨w2.heap.size,7,none⟩=some (.int .u32 sh):=by exact hrow.get 7 (by simp[St.list])
       have pk:wr.cell? ⟨w1.heap.size,k,none⟩=some (.int .u32 kk):=by exact hkc
       have pw:wr.cell? ⟨w.heap.size+2,k,none⟩=some (.int .u32 ww):=by exact hwc
       have mL:=zh hrow;clear hkc hwc hrow;have hc0:decide ((k:Int)<64)=true:=by simp;omega
       go_wp2_with fail
       go_quiet ((go_at_call 141;exact fZ (qO _ _ _ zo zo)))
       generalize hv13:bits .xor .u32 (bits .xor .u32 (yC 6 se) (yC 11 se)) (yC 25 se)=v13;have HV13:=zh hv13;clear hv13;generalize hq1:wr.drewN _=q1;have qa:q1.cell? ⟨w2.heap.size,0,none⟩=some (.int .u32 sa):=by rw[←hq1];exact pa
       have qb:q1.cell? ⟨w2.heap.size,1,none⟩=some (.int .u32 sb):=by rw[←hq1];exact pb
       have qc:q1.cell? ⟨w2.heap.size,2,none⟩=some (.int .u32 sc):=by rw[←hq1];exact pc
       have qd:q1.cell? ⟨w2.heap.size,3,none⟩=some (.int .u32 sd):=by rw[←hq1];exact pd
       have qe:q1.cell? ⟨w2.heap.size,4,none⟩=some (.int .u32 se):=by rw[←hq1];exact pe
       have qf:q1.cell? ⟨w2.heap.size,5,none⟩=some (.int .u32 sf):=by rw[←hq1];exact pf
       have qg:q1.cell? ⟨w2.heap.size,6,none⟩=some (.int .u32 sg):=by rw[←hq1];exact pg
       have qh:q1.cell? ⟨w2.heap.size,7,none⟩=some (.int .u32 sh):=by rw[←hq1];exact ph
       have qk:q1.cell? ⟨w1.heap.size,k,none⟩=some (.int .u32 kk):=by rw[←hq1];exact pk
       have qw:q1.cell? ⟨w.heap.size+2,k,none⟩=some (.int .u32 ww):=by rw[←hq1];exact pw
       have HQ1:Hid (RowIn q1 w2.heap.size 148 .u32 [sa,sb,sc,sd,se,sf,sg,sh]):=by show _=_;rw[←hq1];exact mL.out
       have hbq1:Below w2.heap.size w3 q1:=by rw[←hq1];exact below_drewN hber _
       clear pa pb pc pd pe pf pg ph pk pw;clear hq1 hber mL;go_wp2_with fail
       go_quiet (fail)
       generalize hv14:(_:Int) % 4294967296=v14;have HV14:=zh hv14;clear hv14;generalize hq2:q1.drewN _=q2;have ra:q2.cell? ⟨w2.heap.size,0,none⟩=some (.int .u32 sa):=by rw[←hq2];exact qa
       have rb:q2.cell? ⟨w2.heap.size,1,none⟩=some (.int .u32 sb):=by rw[←hq2];exact qb
       have rc:q2.cell? ⟨w2.heap.size,2,none⟩=some (.int .u32 sc):=by rw[←hq2];exact qc
       have rd:q2.cell? ⟨w2.heap.size,3,none⟩=some (.int .u32 sd):=by rw[←hq2];exact qd
       have re:q2.cell? ⟨w2.heap.size,4,none⟩=some (.int .u32 se):=by rw[←hq2];exact qe
       have rf:q2.cell? ⟨w2.heap.size,5,none⟩=some (.int .u32 sf):=by rw[←hq2];exact qf
       have rg:q2.cell? ⟨w2.heap.size,6,none⟩=some (.int .u32 sg):=by rw[←hq2];exact qg
       have rh:q2.cell? ⟨w2.heap.size,7,none⟩=some (.int .u32 sh):=by rw[←hq2];exact qh
       have rk:q2.cell? ⟨w1.heap.size,k,none⟩=some (.int .u32 kk):=by rw[←hq2];exact qk
       have rw:q2.cell? ⟨w.heap.size+2,k,none⟩=some (.int .u32 ww):=by rw[←hq2];exact qw
       have HQ2:Hid (RowIn q2 w2.heap.size 148 .u32 [sa,sb,sc,sd,se,sf,sg,sh]):=by show _=_;rw[←hq2];exact HQ1.out
       have hbq2:Below w2.heap.size w3 q2:=by rw[←hq2];exact below_drewN hbq1 _
       clear qa qb qc qd qe qf qg qh qk qw;clear hq2 hbq1 HQ1;go_wp2_with fail
       go_quiet ((go_at_call 141;exact fZ (qO _ _ _ zo zo)))
       generalize hv15:bits .xor .u32 (bits .xor .u32 (yC 2 sa) (yC 13 sa)) (yC 22 sa)=v15;have HV15:=zh hv15;clear hv15;generalize hq3:q2.drewN _=q3;have ta:q3.cell? ⟨w2.heap.size,0,none⟩=some (.int .u32 sa):=by rw[←hq3];exact ra
       have tb:q3.cell? ⟨w2.heap.size,1,none⟩=some (.int .u32 sb):=by rw[←hq3];exact rb
       have tc:q3.cell? ⟨w2.heap.size,2,none⟩=some (.int .u32 sc):=by rw[←hq3];exact rc
       have td:q3.cell? ⟨w2.heap.size,3,none⟩=some (.int .u32 sd):=by rw[←hq3];exact rd
       have te:q3.cell? ⟨w2.heap.size,4,none⟩=some (.int .u32 se):=by rw[←hq3];exact re
       have tf:q3.cell? ⟨w2.heap.size,5,none⟩=some (.int .u32 sf):=by rw[←hq3];exact rf
       have tg:q3.cell? ⟨w2.heap.size,6,none⟩=some (.int .u32 sg):=by rw[←hq3];exact rg
       have th:q3.cell? ⟨w2.heap.size,7,none⟩=some (.int .u32 sh):=by rw[←hq3];exact rh
       have tk:q3.cell? ⟨w1.heap.size,k,none⟩=some (.int .u32 kk):=by rw[←hq3];exact rk
       have tw:q3.cell? ⟨w.heap.size+2,k,none⟩=some (.int .u32 ww):=by rw[←hq3];exact rw
       have HQ3:Hid (RowIn q3 w2.heap.size 148 .u32 [sa,sb,sc,sd,se,sf,sg,sh]):=by show _=_;rw[←hq3];exact HQ2.out
       have hbq3:Below w2.heap.size w3 q3:=by rw[←hq3];exact below_drewN hbq2 _
       clear ra rb rc rd re rf rg rh rk rw;clear hq3 hbq2 HQ2;have hbv:=RK
       go_wp2_with (refine qC rfl _ _ rfl w2.heap.size rfl _ _ _ _ _ _ _ _ rfl _ HQ3.out rfl ?_;intro q4 hr4 hb4)
       have hbq4:Below w2.heap.size w3 q4:=hbq3.trans (hb4.mono zl);have HR4:=zh hr4;clear hr4 hb4
       go_wp2
       go_roundw
       case rel =>
        refine⟨k+1,by omega,by go_num,?_,hbq4⟩;rw[E.out];have hr:=HR4.out;rw[←HV15.out,←HV14.out,←HV13.out] at hr;have hsg:(if IntKind.u32.signed=true then (-1:Int) else IntKind.u32.max)=IntKind.u32.max:=rfl;simpa [rnd,St.list,tOne,tTwo,ad,big0,big1,chs,mjr,xr,an,ZF,UQ,UK,ZG,UP,UL,Int.add_assoc,hsg] using hr
       case measure=>simp[intOf];omega
      ·obtain rfl:k=64:=by omega
       have hc0:decide (((64:Nat):Int)<64)=false:=by decide
       have hidx:=YM.out;have hs2':=HS2L.out;have hst4:=YI.out.below hber zo;have hres4:=aAx.out.below hber zo;have hbe4:=HBE3.out.trans (hber.mono zo);have hsz4:=hrow.lt;have HWW:Hid (w.heap.size≤wr.heap.size):=by show _≤_;omega
       have hne:w2.heap.size≠w.heap.size:=by omega
       have hne1:w.heap.size+1≠w.heap.size:=by omega
       rw[show ((64:Nat):Int)=64 from rfl] at hc0;rw[show ((64:Nat):Int)=64 from rfl];have HC0:=zh hc0;clear hc0 HK3 HW3 YI aAx HBE3 hber YM HS2L hidx hs2';go_wp2_with fail;generalize hs64:PN (iM p) st 64=s at *;have HS64:=zh hs64;clear hs64
       go_loopw [17] (fun i wz=>∃ k:Nat,k≤8∧i=.int .i64 k∧RowIn wz w.heap.size 148 .u32 (SS st s k)∧wr.grownBy wz (some w.heap.size)) (fun i _=>8-(intOf i).toNat)
       case atStart=>exact⟨0,by omega,rfl,by rw[LG];exact hst4,World.grownBy.refl _ _⟩
       case round =>
        obtain⟨k,hk8,rfl,hrw,hgr⟩:=hrel;by_cases hlt4:k<8
        ·have hc1:decide ((k:Int)<8)=true:=by simp;omega
         have c1:=hrw.get k (by rw[BO];exact hlt4);have f1:=hrw.free k;have c2:=(hrow.grown hgr hne).get k (by rw[St.list_length];exact hlt4);have e1:=QD st s k hlt4;rw[e1] at c1;clear e1;generalize hx:st.list.getD k 0=x at *;generalize hy:s.list.getD k 0=y at *;have HX:=zh hx;have HY:=zh hy;clear hx hy;go_wp2_with fail;go_region
         go_wp2
         go_roundw
         case rel =>
          refine⟨k+1,by omega,by go_num,?_,bX (bL hgr _ _)⟩;have:=(hrw.put k (ad x y)).drew;rw[←HX.out,←HY.out,QC st s k hlt4] at this;rw[←HX.out,←HY.out];exact this
         case measure=>simp[intOf];omega
        ·obtain rfl:k=8:=by omega
         have hfin:SS st s 8=(⟨ad st.a s.a,ad st.b s.b,ad st.c s.c,ad st.d s.d,ad st.e s.e,ad st.f s.f,ad st.g s.g,ad st.h s.h⟩:St).list:=rfl;rw[hfin] at hrw;clear hfin;have hres5:=hres4.grown hgr hne1;have hbe5:=hbe4.trans (aU hgr HWW.out);have hc1:decide ((8:Int)<8)=false:=by decide
         have HRW:=zh hrw;have IE:=zh hres5;have hcomp:qV st p=⟨ad st.a s.a,ad st.b s.b,ad st.c s.c,ad st.d s.d,ad st.e s.e,ad st.f s.f,ad st.g s.g,ad st.h s.h⟩:=by unfold qV;rw[HS64.out]
         have aBr:=zh hcomp;clear hrw hres5 hres4 hbe4 hst4 hrow hgr hcomp;rw[show ((8:Nat):Int)=8 from rfl];obtain⟨t,ht⟩:∃ t:St,t=⟨ad st.a s.a,ad st.b s.b,ad st.c s.c,ad st.d s.d,ad st.e s.e,ad st.f s.f,ad st.g s.g,ad st.h s.h⟩:=⟨_,rfl⟩;rw[←ht] at HRW aBr;clear ht;have HI8:=zh (DB t);have HS8:=zh (JL t);have HO8:=zh (aW .u32 t.list)
         go_wp2_with (first
          | (refine wpList_load_row rfl 148 _ rfl w.heap.size rfl 148 _ (0,0) _ HRW.out Tryz.underlying148 rfl HI8.out ?_)
          | (refine wpList_store_row rfl 148 _ _ rfl (w.heap.size+1) _ rfl rfl 148 _ IE.out HI8.out HS8.out HO8.out ?_))
         exact bodyPost_ret (results_cell_row (P:=Tryz.prog) rfl _ _ (w.heap.size+1) 148 _ (0,0) _ rfl (setRow_heap _ _ _ _ _ _ IE.out) Tryz.underlying148 rfl HI8.out) rfl ⟨by rw[aBr.out],below_setRow hbe5 zo _⟩
end Go.Proofs.YtaeobegaodhpcaaGreatDoor
