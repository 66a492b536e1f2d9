/-
  Envelopes: the walk of slices.Insert at one signature (at most 1000 signatures in the list).
-/
import Derived.Test.YtaeobegaodhpcaaGreatDoorZip
import Derived.Shelf.Spec.SlicesInsert
import Derived.Shelf.Spec.SlicesInsertGrow
import Derived.Test.YtaeobegaodhpcaaGreatDoorEnvI
import Derived.Lib.SlBytesConst
set_option maxRecDepth 100000
set_option maxHeartbeats 8000000
namespace Go.Proofs.YtaeobegaodhpcaaGreatDoor
open Go.RowKit Go.Proofs.YtaeobegaodhpcaaGreatDoor.One
theorem JP (w:World):(sizeOf 50).run Tryz.prog w=.ok 20 w:=by
 have h:=LZ
 cases hi:Tryz.prog.info? 50 with
 | none=>rw[hi] at h;cases h
 | some i=>rw[hi] at h;injection h with h;simp[sizeOf,typeInfo,hi,h]
theorem fQ {P:Program} (w:World) (dT sT ty elem:TypeId) (sz:Nat) (b o dLen dCap:Nat) (a:Addr) (sLen sCap:Nat) (cs:List Value)
 (hu:P.underlying dT=some (.slice elem)) (hs:(P.info? elem).map (·.size)=some sz) (hn:cs.length=Nat.min sLen dLen*sz)
 (hsrc:∀ j v,cs[j]? = some v→w.cell? (a.add j)=some v) (hc:∀ j,j<cs.length→(w.cell? ⟨b,o+j,none⟩).isSome=true) (hf:∀ j,j<cs.length→w.frozen? ⟨b,o+j,none⟩=false) (h1:∀ v ∈ cs,v.oneCell'=true) :
 (Builtin.copy_ #[dT,sT] ty #[.slice (some ⟨b,o,none⟩) dLen dCap,.slice (some a) sLen sCap]).run P w=.ok (goInt (Nat.min sLen dLen)) (w.setCells b o cs):=by
 have hl:=run_loadCells_list (P:=P) w a cs hsrc;have hst:=run_storeCells_cells (P:=P) b o cs 0 w (by simpa using hc) (by simpa using hf) h1
 cases hq:P.info? elem with
 | none=>simp[hq] at hs
 | some i =>
   have hi:i.size=sz:=by simpa [hq] using hs
   rw[hn] at hl;simp[Builtin.copy_,run_underlying hu,Builtin.lenOf,Builtin.firstCells,sizeOf,typeInfo,hq,hi,hl,hst]
theorem dE (g:Nat) (t:TypeId):∀ (vs:List Value) (o:Nat) (w:World) (cur:Array Value),w.heap[g]? = some (.cells cur t (0,0))→o+vs.length≤cur.size →
 ∃ cur',(w.setCells g o vs).heap[g]? = some (.cells cur' t (0,0))∧cur'.size=cur.size∧(∀ j,(j<o∨o+vs.length≤j)→cur'[j]? = cur[j]?)∧(∀ (j:Nat) (v:Value),vs[j]? = some v→cur'[o+j]? = some v)∧w.grownBy (w.setCells g o vs) (some g)
 | [],o,w,cur,hg,_=>⟨cur,hg,rfl,fun _ _=>rfl,fun j v hv=>by simp at hv,World.grownBy.refl _ _⟩
 | v :: r, o, w, cur, hg, hs => by
   simp only[List.length_cons] at hs;have h1:=heap_setCell_same w g o cur t v hg;obtain⟨cur',h2,h3,h4,h5,h6⟩:=dE g t r (o+1) (w.setCell ⟨g,o,none⟩ v) _ h1 (by simp;omega);refine⟨cur',h2,by rw[h3];simp,fun j hj=>?_,fun j u hu=>?_,?_⟩
   ·simp only[List.length_cons] at hj;rw[h4 j zo];rw[Array.getElem?_setIfInBounds];rw[if_neg zo]
   ·cases j with
    | zero =>
      have e:v=u:=by simpa using hu
      subst e;rw[Nat.add_zero,h4 o zo,Array.getElem?_setIfInBounds,if_pos rfl,if_pos zo]
    | succ j =>
      have:=h5 j u (by simpa using hu)
      rwa [show o+(j+1)=o+1+j by omega]
   ·have hk:w.grownBy (w.setCell ⟨g,o,none⟩ v) (some g):=⟨rfl,rfl,rfl,by simp[World.setCell],fun k _ hne=>heap_setCell_other w ⟨g,o,none⟩ k v (fun e=>hne (by rw[e]))⟩;exact⟨h6.os.trans hk.os,h6.tape.trans hk.tape,h6.output.trans hk.output,Nat.le_trans hk.size h6.size,fun k hkk hne=>(h6.block k (Nat.lt_of_lt_of_le hkk hk.size) hne).trans (hk.block k hkk hne)⟩
theorem zC {l:List Sg} {y:Sg} {k n:Nat} {c:Array Value} (hok:∀ x ∈ l,OkG x) (hy:OkG y) (hk:k≤n) (hn:l.length=n) (hsz:(n+1)*20≤c.size)
 (h1:∀ (j:Nat) (v:Value),(aR (l.take k))[j]? = some v→c[j]? = some v) (h2:∀ (j:Nat) (v:Value),(aX y)[j]? = some v→c[k*20+j]? = some v) (h3:∀ (j:Nat) (v:Value),(aR (l.drop k))[j]? = some v→c[k*20+20+j]? = some v) :
 c.toList.take ((n+1)*20)=aR (l.take k++y :: l.drop k):=by
 have ln:∀ (q:List Sg),(∀ x ∈ q,OkG x)→(aR q).length=q.length*20:=fun q hq=>by
  induction q with
  | nil=>rfl
  | cons a t ih =>
    show (aX a++aR t).length=_;rw[List.length_append,ih (fun x hx=>hq x (by simp[hx])),aJ (hq a (by simp)),List.length_cons];omega
 have l1:=ln (l.take k) (fun x hx=>hok x (List.mem_of_mem_take hx));have l3:=ln (l.drop k) (fun x hx=>hok x (List.mem_of_mem_drop hx));have ly:=aJ hy;rw[List.length_take,hn,Nat.min_eq_left hk] at l1;rw[List.length_drop,hn] at l3;have e:aR (l.take k++y :: l.drop k)=aR (l.take k)++(aX y++aR (l.drop k)):=by
  rw[eL];rfl
 rw[e];apply List.ext_getElem?;intro j;rw[List.getElem?_take];by_cases hj:j<(n+1)*20
 ·rw[if_pos hj];by_cases c1:j<k*20
  ·have hlt:j<(aR (l.take k)).length:=by omega
   have:=h1 j _ (List.getElem?_eq_getElem hlt);rw[List.getElem?_append_left hlt,List.getElem?_eq_getElem (l:=aR (l.take k)) hlt];simpa using this
  ·rw[List.getElem?_append_right zo,l1];by_cases c2:j<k*20+20
   ·have hlt:j-k*20<(aX y).length:=by omega
    rw[List.getElem?_append_left hlt,List.getElem?_eq_getElem (l:=aX y) hlt];have:=h2 (j-k*20) _ (List.getElem?_eq_getElem hlt);rw[show k*20+(j-k*20)=j by omega] at this;simpa using this
   ·have hlt:j-k*20-20<(aR (l.drop k)).length:=by omega
    rw[List.getElem?_append_right zo,ly,List.getElem?_eq_getElem (l:=aR (l.drop k)) hlt];have:=h3 (j-k*20-20) _ (List.getElem?_eq_getElem hlt);rw[show k*20+20+(j-k*20-20)=j by omega] at this;simpa using this
 ·rw[if_neg hj,List.getElem?_eq_none (by rw[List.length_append,List.length_append];omega)]
theorem oJ {l:List Sg} (hok:∀ x ∈ l,OkG x) (k:Nat):(aR l).take (k*20)=aR (l.take k)∧(aR l).drop (k*20)=aR (l.drop k):=by
 induction l generalizing k with
 | nil=>simp[aR]
 | cons a t ih =>
   cases k with
   | zero=>simp[aR]
   | succ k =>
     have h:=ih (fun x hx=>hok x (by simp[hx])) k;have la:=aJ (hok a (by simp));constructor
     ·show (aX a++aR t).take _=aX a++aR (t.take k);rw[List.take_append,List.take_of_length_le zo,la,show (k+1)*20-20=k*20 by omega,h.1]
     ·show (aX a++aR t).drop _=aR (t.drop k);rw[List.drop_append,List.drop_eq_nil_of_le zo,la,show (k+1)*20-20=k*20 by omega,h.2,List.nil_append]
def slG (sp:Option Addr) (k cap:Nat):Option Addr:=if cap=k then sp else sp.map (·.add (k*20))
theorem KD (w:World) (sp:Option Addr) (n cap k:Nat) (hk:k≤n) :
 (Instr.slice 23 (.slice sp n cap) (some (.int .i64 k)) none none).run Tryz.prog w=.ok (.slice (slG sp k cap) (n-k) (cap-k)) w:=by
 have h1:(0:Int)≤(k:Int)∧(k:Int)≤(n:Int):=⟨by omega,by omega⟩;simp[Instr.slice,Instr.sliceBounds,Instr.sliceBound,asIntOf,run_underlying Tryz.underlying23,JP,hk,slG]
theorem GG (n:Nat) (l:List Sg) (y:Sg) (w:World) (base:Nat) (sp:Option Addr) (cap g:Nat) (hl:l.length=n) (hn:n≤1000) (ho:OwnG w base (.slice sp n cap) l) (hg:GB w g y) (hy:OkG y) (hbase:base≤w.heap.size) :
 Calls Tryz.prog 62 #[.slice sp n cap,.int .i64 (n:Int),.slice (some ⟨g,0,none⟩) 1 1] w fun e w'=>∃ sp' cap',e=.returned (.slice sp' (n+1) cap')∧Hid (OwnG w' base (.slice sp' (n+1) cap') (l++[y]))∧Below base w w'∧Hid (w.grownBy w' (Value.slice sp n cap).ownBlock):=by
 have HO:=zh ho;have HG:=zh hg;have HY:=zh hy;have HL:=zh hl;clear ho hg hy hl;have hz:=JP;have p1:(0:Int)≤(n:Int):=by omega
 by_cases hcn:cap=n
 ·subst hcn
  go_enter Tryz.func62,Tryz.ntmps62
  go_wp2_with (at_builtin;refine cZ rfl (.tmp 23) (.tmp 24) rfl base (.slice sp cap cap) l cap HL.out.symm rfl HO.out g y rfl HG.out HY.out zo hbase ?_;intro sp2 cap2 w2 HO2 HB2 HG2)
  go_ret;exact⟨sp2,cap2,rfl,HO2,HB2.out,HG2⟩
 ·go_enter Tryz.func62,Tryz.ntmps62
  go_wp2_with (at_builtin;refine cZ rfl (.tmp 23) (.tmp 24) rfl base (.slice sp n cap) l n HL.out.symm rfl HO.out g y rfl HG.out HY.out zo hbase ?_;intro sp2 cap2 w2 HO2 HB2 HG2)
  go_ret;exact⟨sp2,cap2,rfl,HO2,HB2.out,HG2⟩
theorem BY {w:World} {base g0 n cap:Nat} {l:List Sg} (h:OwnG w base (.slice (some ⟨g0,0,none⟩) n cap) l) (hl:l.length=n) (hn:0<n) :
 ∃ cur,base≤g0∧w.heap[g0]? = some (.cells cur 50 (0,0))∧n≤cap∧cap≤maxLen∧cur.size=cap*20∧cur.toList.take (n*20)=aR l∧(aR l).length=n*20:=by
 have hlen:=h.1.1;obtain⟨_,⟨e,e0⟩ | ⟨g,c,cur,e,hb,hg,hle,hmx,hsz,htk⟩⟩:=h.1
 ·omega
 ·injection e with e1 e2 e3
  injection e1 with e1
  injection e1 with e1
  subst e1 e3;rw[hl] at htk hle;exact⟨cur,hb,hg,hle,hmx,hsz,htk,by rw[←hl];exact hlen⟩
theorem BR (n k:Nat) (l:List Sg) (y:Sg) (w:World) (base g0 cap g:Nat) (hl:l.length=n) (hk:k<n) (hn:n≤1000) (hcap:n+1≤cap) (ho:OwnG w base (.slice (some ⟨g0,0,none⟩) n cap) l) (hg:GB w g y) (hy:OkG y) (hne:g≠g0) :
 Calls Tryz.prog 62 #[.slice (some ⟨g0,0,none⟩) n cap,.int .i64 (k:Int),.slice (some ⟨g,0,none⟩) 1 1] w fun e w'=>e=.returned (.slice (some ⟨g0,0,none⟩) (n+1) cap)∧w'=(w.drew.setCells g0 ((k+1)*20) (aR (l.drop k))).setCells g0 (k*20) (aX y):=by
 obtain⟨cur,hb0,hg0,hle,hmx,hsz,htk,hrl⟩:=BY ho hl zo;have hok:=ho.2;have hrt:=oJ hok k;have hcell:∀ (W:World),W.heap[g0]? = some (.cells cur 50 (0,0))→∀ j,W.cell? ⟨g0,j,none⟩=cur[j]?:=fun W hW j=>cell_of_row W g0 j _ _ _ hW;have hdl:(aR (l.drop k)).length=(n-k)*20:=by rw[←hrt.2,List.length_drop,hrl];omega
 have hsrc:∀ j v,(aR (l.drop k))[j]? = some v→cur[k*20+j]? = some v:=fun j v hj=>by
  rw[←hrt.2,List.getElem?_drop,←htk,List.getElem?_take] at hj
  split at hj
  ·simpa using hj
  ·cases hj
 have hu:=Tryz.underlying23;have hsz20:(Tryz.prog.info? 50).map (·.size)=some 20:=LZ;have hov:∀ o lb cb,(callFunc 100 #[.slice (some ⟨g,0,none⟩) 1 1,.slice (some ⟨g0,o,none⟩) lb cb]).run Tryz.prog w=.ok (.value (.bool false)) w:=fun o lb cb=>by
  rw[run_callFunc_extern Tryz.func100 (by kernel_rfl) (by kernel_rfl) (by kernel_rfl) (e:=Extern.SlicesOverlaps.overlaps #[23,23] #[4]) (by kernel_rfl),
   Lib.run_overlaps_apart w 23 4 50 hu 20 JP ⟨g,0,none⟩ ⟨g0,o,none⟩ 1 1 lb cb hne 50 50 20 cur.size (by show w.shape? g=_;unfold World.shape?;rw[hg];simp[aJ hy]) (by show w.shape? g0=_;unfold World.shape?;rw[hg0]) (by rw[hsz];omega) (frozen_of_row _ _ 0 _ _ hg) (frozen_of_row _ _ 20 _ _ hg)]
  rfl
 have hcp1:∀ o1 o2 ty dc sc,o1=(k+1)*20→o2=k*20→(Builtin.copy_ #[23,23] ty #[.slice (some ⟨g0,o1,none⟩) (n+1-(k+1)) dc,.slice (some ⟨g0,o2,none⟩) (n+1-k) sc]).run Tryz.prog w.drew=.ok (goInt (Nat.min (n+1-k) (n+1-(k+1)))) (w.drew.setCells g0 ((k+1)*20) (aR (l.drop k))):=fun o1 o2 ty dc sc e1 e2=>by
  subst e1 e2
  exact fQ w.drew _ _ ty 50 20 g0 ((k+1)*20) (n+1-(k+1)) dc ⟨g0,k*20,none⟩ (n+1-k) sc (aR (l.drop k)) hu hsz20 (by rw[hdl];simp only[Nat.min_def];split <;> omega)
   (fun j v hj=>by rw[Addr.add_mid,hcell w.drew hg0];exact hsrc j v hj)
   (fun j hj=>by rw[hcell w.drew hg0,Array.getElem?_eq_getElem (by rw[hsz];omega)];rfl) (fun j hj=>frozen_of_row _ _ _ _ _ (show w.drew.heap[g0]? = _ from hg0)) rN
 obtain⟨cur1,hg1,hsz1,hoff1,hin1,hgr1⟩:=dE g0 50 (aR (l.drop k)) ((k+1)*20) w.drew cur hg0 (by rw[hdl,hsz];omega);have hgv:(w.drew.setCells g0 ((k+1)*20) (aR (l.drop k))).heap[g]? = some (.cells (aX y).toArray 50 (0,0)):=(hgr1.block g (Array.getElem?_eq_some_iff.1 hg).1 (fun e=>hne (by injection e))).trans hg;have hcp2:∀ (W:World),(∀ x,W.cell? x=(w.drew.setCells g0 ((k+1)*20) (aR (l.drop k))).cell? x)→(∀ x,W.frozen? x=(w.drew.setCells g0 ((k+1)*20) (aR (l.drop k))).frozen? x)→∀ o ty dc,o=k*20→(Builtin.copy_ #[23,23] ty #[.slice (some ⟨g0,o,none⟩) (n+1-k) dc,.slice (some ⟨g,0,none⟩) 1 1]).run Tryz.prog W=.ok (goInt (Nat.min 1 (n+1-k))) (W.setCells g0 (k*20) (aX y)):=fun W hWc hWf o ty dc e=>by
  subst e
  exact fQ W _ _ ty 50 20 g0 (k*20) (n+1-k) dc ⟨g,0,none⟩ 1 1 (aX y) hu hsz20 (by rw[aJ hy];simp only[Nat.min_def];split <;> omega)
   (fun j v hj=>by rw[Addr.add_mid,hWc,Nat.zero_add,cell_of_row _ g j _ _ _ hgv];simpa using hj)
   (fun j hj=>by rw[hWc,cell_of_row _ g0 _ _ _ _ hg1,Array.getElem?_eq_getElem (by rw[hsz1,hsz];rw[aJ hy] at hj;omega)];rfl) (fun j hj=>by rw[hWf];exact frozen_of_row _ _ _ _ _ hg1) (mR y)
 generalize hW1:w.drew.setCells g0 ((k+1)*20) (aR (l.drop k))=W1 at *;have mixed:Tryz.prog.follows .mixedOrders=true:=by kernel_rfl
 have hz:=JP;have hw1:IntKind.i64.wrap ((k:Int)+1)=(k:Int)+1:=by rw[IntKind.wrap_i64];omega
 have hw2:IntKind.i64.wrap ((n:Int)+1)=(n:Int)+1:=by rw[IntKind.wrap_i64];omega
 have hb1:(0:Int)≤(k:Int)+1:=by omega
 have hb0':(0:Int)≤(k:Int):=by omega
 have hin:(k:Int)≤(n:Int):=by omega
 have hzk:((k:Int) == (n:Int))=false:=by simp;omega
 have hgt:decide ((n:Int)+1>(cap:Int))=false:=by simp;omega
 have hnc:(n:Int)+1≤(cap:Int):=by omega
 have hn0:(0:Int)≤(n:Int)+1:=by omega
 have htn:((k:Int)+1).toNat=k+1:=by omega
 have htn2:((n:Int)+1).toNat=n+1:=by omega
 have hb2:¬ (cap=k+1):=by omega
 have hb3:(k:Int)≤(n:Int)+1:=by omega
 have hb5:(k:Int)+1≤(n:Int)+1:=by omega
 have hb4:¬ (cap=k):=by omega
 have HOV:=zh hov;have HCP1:=zh hcp1;have HCP2:=zh hcp2;have HW1:=zh hW1;clear hov hcp1 hcp2 hW1 hgv hg1 hin1 hoff1 hgr1 hsz1 hsrc hdl hrt hok hg0 hmx hle htk hrl hsz hcell hu hsz20 ho hg hy hb0 hl
 go_enter Tryz.func62,Tryz.ntmps62
 go_wp2_with (rw[HOV.out])
 go_region_law_o (refine step_copy_runI rfl _ _ 23 23 rfl (.slice (some ⟨g0,(k+1)*20,none⟩) (n+1-(k+1)) (cap-(k+1))) (.slice (some ⟨g0,k*20,none⟩) (n+1-k) (cap-k)) (by simp[Act.eval,Act.put]) (by simp[Act.eval,Act.put]) (HCP1.out _ _ _ _ _ rfl rfl) ?_)
 go_wp2_with (rw[HCP2.out W1 (fun _=>rfl) (fun _=>rfl) _ _ _ rfl])
 go_ret;exact⟨rfl,rfl⟩
theorem iF {l:List Sg} {n k:Nat} (y:Sg) (hl:l.length=n) (hk:k≤n):(l.take k++y :: l.drop k).length=n+1:=by
 rw[List.length_append,List.length_cons,List.length_take,List.length_drop,hl];omega
theorem DS {l:List Sg} {y:Sg} (k:Nat) (hok:∀ x ∈ l,OkG x) (hy:OkG y):∀ x ∈ l.take k++y :: l.drop k,OkG x:=fun x hx=>by
 rcases List.mem_append.1 hx with h | h
 ·exact hok x (List.mem_of_mem_take h)
 ·rcases List.mem_cons.1 h with rfl | h
  ·exact hy
  ·exact hok x (List.mem_of_mem_drop h)
theorem mV {q:List Sg} (hq:∀ x ∈ q,OkG x):(aR q).length=q.length*20:=by
 induction q with
 | nil=>rfl
 | cons a t ih =>
   show (aX a++aR t).length=_;rw[List.length_append,ih (fun x hx=>hq x (by simp[hx])),aJ (hq a (by simp)),List.length_cons];omega
theorem PL {n k:Nat} {l:List Sg} {y:Sg} {w:World} {base g0 cap:Nat} (hl:l.length=n) (hk:k<n) (hcap:n+1≤cap) (ho:OwnG w base (.slice (some ⟨g0,0,none⟩) n cap) l) (hy:OkG y) :
 OwnG ((w.drew.setCells g0 ((k+1)*20) (aR (l.drop k))).setCells g0 (k*20) (aX y)) base (.slice (some ⟨g0,0,none⟩) (n+1) cap) (l.take k++y :: l.drop k)∧w.grownBy ((w.drew.setCells g0 ((k+1)*20) (aR (l.drop k))).setCells g0 (k*20) (aX y)) (some g0)∧base≤g0:=by
 obtain⟨cur,hb0,hg0,hle,hmx,hsz,htk,hrl⟩:=BY ho hl zo;have hok:=ho.2;have hrt:=oJ hok k;have hdl:(aR (l.drop k)).length=(n-k)*20:=by rw[←hrt.2,List.length_drop,hrl];omega
 obtain⟨cur1,hg1,hsz1,hoff1,hin1,hgr1⟩:=dE g0 50 (aR (l.drop k)) ((k+1)*20) w.drew cur hg0 (by rw[hdl,hsz];omega);obtain⟨cur2,hg2,hsz2,hoff2,hin2,hgr2⟩:=dE g0 50 (aX y) (k*20) _ cur1 hg1 (by rw[aJ hy,hsz1,hsz];omega);refine⟨⟨⟨by rw[iF y hl zo,mV (DS k hok hy),iF y hl zo],  .inr ⟨g0,cap,cur2,by rw[iF y hl zo],hb0,hg2,by rw[iF y hl zo];exact hcap,hmx,by rw[hsz2,hsz1,hsz],?_⟩⟩,DS k hok hy⟩,⟨hgr2.os.trans hgr1.os,hgr2.tape.trans hgr1.tape,hgr2.output.trans hgr1.output,Nat.le_trans hgr1.size hgr2.size,fun j hj hne=>(hgr2.block j (Nat.lt_of_lt_of_le hj hgr1.size) hne).trans (hgr1.block j hj hne)⟩,hb0⟩;rw[iF y hl zo];refine zC hok hy zo hl (by rw[hsz2,hsz1,hsz];omega) (fun j v hj=>?_) (fun j v hj=>hin2 j v hj) (fun j v hj=>?_)
 ·have hjl:j<k*20:=by
   have:=(List.getElem?_eq_some_iff.1 hj).1;rw[←hrt.1,List.length_take] at this;omega
  rw[hoff2 j (.inl hjl),hoff1 j (.inl zo)];rw[←hrt.1,List.getElem?_take,if_pos hjl,←htk,List.getElem?_take] at hj
  split at hj
  ·simpa using hj
  ·cases hj
 ·rw[hoff2 _ (.inr (by rw[aJ hy];omega)),show k*20+20+j=(k+1)*20+j by omega];exact hin1 j v hj
theorem tC (k:Nat):(Builtin.zeroCells zG.toArray k).size=k*20:=by
 simp[Builtin.zeroCells,show zG.length=20 from rfl]
def eZ (l:List Sg) (n k G:Nat):Array Value:=(aR (l.take k)).toArray++Builtin.zeroCells zG.toArray (n+1-k)++Builtin.zeroCells zG.toArray (G-(n+1))
theorem pT {l:List Sg} {n k G:Nat} (hok:∀ x ∈ l,OkG x) (hl:l.length=n) (hk:k≤n) (hG:n+1≤G):(eZ l n k G).size=G*20:=by
 unfold eZ;rw[Array.size_append,Array.size_append,tC,tC,List.size_toArray,mV (fun x hx=>hok x (List.mem_of_mem_take hx)),List.length_take,hl];omega
theorem BS (n k:Nat) (l:List Sg) (y:Sg) (w:World) (base g0 cap g:Nat) (hl:l.length=n) (hk:k<n) (hn:n≤1000) (hcap:cap<n+1) (ho:OwnG w base (.slice (some ⟨g0,0,none⟩) n cap) l) (hg:GB w g y) (hy:OkG y) :
 Calls Tryz.prog 62 #[.slice (some ⟨g0,0,none⟩) n cap,.int .i64 (k:Int),.slice (some ⟨g,0,none⟩) 1 1] w fun e w'=>∃ G,n+1≤G∧G≤maxLen∧e=.returned (.slice (some ⟨w.heap.size,0,none⟩) (n+1) G) ∧
  w'=((((w.alloc (.cells (eZ l n k G) 50)).drew).setCells w.heap.size (k*20) (aX y)).drew).setCells w.heap.size ((k+1)*20) (aR (l.drop k)):=by
 obtain⟨cur,hb0,hg0,hle,hmx,hsz,htk,hrl⟩:=BY ho hl zo;have hok:=ho.2;have hrt:=oJ hok k;have hgl:=(Array.getElem?_eq_some_iff.1 hg).1;have hg0l:=(Array.getElem?_eq_some_iff.1 hg0).1;have hdl:(aR (l.drop k)).length=(n-k)*20:=by rw[←hrt.2,List.length_drop,hrl];omega
 have htl:(aR (l.take k)).length=k*20:=by rw[←hrt.1,List.length_take,hrl];omega
 have hsrc:∀ j v,(aR l)[j]? = some v→cur[j]? = some v:=fun j v hj=>by
  rw[←htk,List.getElem?_take] at hj
  split at hj
  ·simpa using hj
  ·cases hj
 obtain⟨i0,hi0,hz0,hzs,hzb⟩:=bF LY;have hold:(Builtin.firstCells i0.size k (.slice (some ⟨g0,0,none⟩) k cap)).run Tryz.prog w.drew=.ok (aR (l.take k)).toArray w.drew:=by
  rw[hzs];exact run_firstCells_some w.drew 20 k ⟨g0,0,none⟩ k cap (aR (l.take k)) htl (fun j v hj=>by
   rw[Addr.add_mid,cell_of_row _ g0 _ _ _ _ (show w.drew.heap[g0]? = _ from hg0),Nat.zero_add];rw[←hrt.1,List.getElem?_take] at hj
   split at hj
   ·exact hsrc j v hj
   ·cases hj)
 have hik:k+(n+1-k)=n+1:=by omega
 have hkk:(n:Int)+1-(k:Int)=((n+1-k:Nat):Int):=by omega
 have hti:∃ kn,Tryz.prog.underlying 3=some (.int kn)∧kn=.i64:=⟨.i64,Tryz.underlying3,rfl⟩
 have hrz:∀ ty,(Builtin.append_ #[23,3] ty #[.slice (some ⟨g0,0,none⟩) k cap,.int .i64 ((n:Int)+1-(k:Int))]).run Tryz.prog w =
  .ok (.slice (some ⟨w.heap.size,0,none⟩) (n+1) (grownCap w (n+1) cap 50)) (w.drew.alloc (.cells (eZ l n k (grownCap w (n+1) cap 50)) 50)):=fun ty=>by
  have h:=Lib.run_append_grow_zeros w 23 3 ty 50 i0 _ .i64 .i64 Tryz.underlying23 Tryz.underlying3 hi0 hz0 (some ⟨g0,0,none⟩) k cap (aR (l.take k)) hold (n+1-k) zo (by rw[hzs];omega) zo zo (by rw[hzb];omega) (by rw[hzb,hik];exact growslice_fits zo zo);rw[hik] at h;rw[hkk];exact h
 have hGn:n+1≤grownCap w (n+1) cap 50:=grownCap_ge w _ _ _;have hGm:grownCap w (n+1) cap 50≤maxLen:=grownCap_le_maxLen w (n+1) cap 50 (by unfold maxLen;omega);generalize grownCap w (n+1) cap 50=G at *;have hRS:=pT (k:=k) hok hl zo hGn;generalize hROW:eZ l n k G=ROW at *;have hu:=Tryz.underlying23;have hsz20:(Tryz.prog.info? 50).map (·.size)=some 20:=LZ;obtain⟨W1,hW1⟩:∃ W1,W1=w.drew.alloc (.cells ROW 50):=⟨_,rfl⟩;have hN0:W1.heap[w.heap.size]? = some (.cells ROW 50 (0,0)):=by rw[hW1];exact heap_alloc_new w.drew _
 have hOb:∀ b,b<w.heap.size→W1.heap[b]? = w.heap[b]?:=fun b hb=>by rw[hW1];exact heap_alloc_old w.drew _ hb
 have hcpA:∀ (W:World),(∀ x,W.cell? x=W1.cell? x)→(∀ x,W.frozen? x=W1.frozen? x)→∀ o ty dc,o=k*20→(Builtin.copy_ #[23,23] ty #[.slice (some ⟨w.heap.size,o,none⟩) (n+1-k) dc,.slice (some ⟨g,0,none⟩) 1 1]).run Tryz.prog W=.ok (goInt (Nat.min 1 (n+1-k))) (W.setCells w.heap.size (k*20) (aX y)):=fun W hWc hWf o ty dc e=>by
  subst e
  exact fQ W _ _ ty 50 20 w.heap.size (k*20) (n+1-k) dc ⟨g,0,none⟩ 1 1 (aX y) hu hsz20 (by rw[aJ hy];simp only[Nat.min_def];split <;> omega)
   (fun j v hj=>by rw[Addr.add_mid,hWc,Nat.zero_add,cell_of_row _ g j _ _ _ ((hOb g hgl).trans hg)];simpa using hj)
   (fun j hj=>by rw[hWc,cell_of_row _ _ _ _ _ _ hN0,Array.getElem?_eq_getElem (by rw[hRS];rw[aJ hy] at hj;omega)];rfl) (fun j hj=>by rw[hWf];exact frozen_of_row _ _ _ _ _ hN0) (mR y)
 obtain⟨cur1,hg1,hsz1,hoff1,hin1,hgr1⟩:=dE w.heap.size 50 (aX y) (k*20) W1 ROW hN0 (by rw[aJ hy,hRS];omega);have hg01:(W1.setCells w.heap.size (k*20) (aX y)).heap[g0]? = some (.cells cur 50 (0,0)):=(hgr1.block g0 (by rw[hW1];simp;exact Nat.lt_succ_of_lt hg0l) (fun e=>by injection e with e;omega)).trans ((hOb g0 hg0l).trans hg0);have hcpB:∀ (W:World),(∀ x,W.cell? x=(W1.setCells w.heap.size (k*20) (aX y)).cell? x)→(∀ x,W.frozen? x=(W1.setCells w.heap.size (k*20) (aX y)).frozen? x)→∀ o1 o2 ty dc sc,o1=(k+1)*20→o2=k*20→(Builtin.copy_ #[23,23] ty #[.slice (some ⟨w.heap.size,o1,none⟩) (n+1-(k+1)) dc,.slice (some ⟨g0,o2,none⟩) (n-k) sc]).run Tryz.prog W=.ok (goInt (Nat.min (n-k) (n+1-(k+1)))) (W.setCells w.heap.size ((k+1)*20) (aR (l.drop k))):=fun W hWc hWf o1 o2 ty dc sc e1 e2=>by
  subst e1 e2
  exact fQ W _ _ ty 50 20 w.heap.size ((k+1)*20) (n+1-(k+1)) dc ⟨g0,k*20,none⟩ (n-k) sc (aR (l.drop k)) hu hsz20 (by rw[hdl];simp only[Nat.min_def];split <;> omega)
   (fun j v hj=>by
    rw[Addr.add_mid,hWc,cell_of_row _ g0 _ _ _ _ hg01];rw[←hrt.2,List.getElem?_drop] at hj;exact hsrc _ v hj)
   (fun j hj=>by rw[hWc,cell_of_row _ _ _ _ _ _ hg1,Array.getElem?_eq_getElem (by rw[hsz1,hRS];omega)];rfl) (fun j hj=>by rw[hWf];exact frozen_of_row _ _ _ _ _ hg1) rN
 have mixed:Tryz.prog.follows .mixedOrders=true:=by kernel_rfl
 have hz:=JP;have hw1:IntKind.i64.wrap ((k:Int)+1)=(k:Int)+1:=by rw[IntKind.wrap_i64];omega
 have hw2:IntKind.i64.wrap ((n:Int)+1)=(n:Int)+1:=by rw[IntKind.wrap_i64];omega
 have hw3:IntKind.i64.wrap ((n:Int)+1-(k:Int))=(n:Int)+1-(k:Int):=by rw[IntKind.wrap_i64];omega
 have hb1:(0:Int)≤(k:Int)+1:=by omega
 have hb0':(0:Int)≤(k:Int):=by omega
 have hin:(k:Int)≤(n:Int):=by omega
 have hzk:((k:Int) == (n:Int))=false:=by simp;omega
 have hgt:decide ((n:Int)+1>(cap:Int))=true:=by simp;omega
 have hcapn:cap=n:=by omega
 have htn:((k:Int)+1).toNat=k+1:=by omega
 have hb3:(k:Int)≤(n:Int)+1:=by omega
 have hb5:(k:Int)+1≤(n:Int)+1:=by omega
 have hkc:(k:Int)≤(cap:Int):=by omega
 have hb4:¬ (cap=k):=by omega
 have hGk:¬ (G=k):=by omega
 have hGk1:¬ (G=k+1):=by omega
 have HRZ:=zh hrz;have HCPA:=zh hcpA;have HCPB:=zh hcpB;have mL:=zh hROW;have HGM:=zh hGm;have HGN:=zh hGn;have HW1:=zh hW1;clear hrz hcpA hcpB hGm hGn hcapn hg01 hg1 hin1 hoff1 hgr1 hsz1 hN0 hOb hROW hRS hsrc hdl htl hrt hok hg0 hmx hle htk hrl hsz hu hsz20 ho hg hy hb0 hl hold hik hkk hti hi0 hz0 hzs hzb hgl hg0l;subst hW1
 go_enter Tryz.func62,Tryz.ntmps62
 go_wp2_with (first
  | (at_builtin;refine Lib.wpList_append_run _ rfl _ _ _ _ rfl _ _ rfl rfl _ _ (HRZ.out _) ?_)
  | (rw[HCPA.out ((w.alloc (.cells ROW 50)).drew) (fun _=>rfl) (fun _=>rfl) _ _ _ rfl]))
 go_region_law_o (refine step_copy_runI rfl _ _ 23 23 rfl (.slice (some ⟨w.heap.size,(k+1)*20,none⟩) (n+1-(k+1)) (G-(k+1))) (.slice (some ⟨g0,k*20,none⟩) (n-k) (cap-k)) (by simp[Act.eval,Act.put]) (by simp[Act.eval,Act.put]) (HCPB.out ((((w.alloc (.cells ROW 50)).drew).setCells w.heap.size (k*20) (aX y)).drew) (fun _=>rfl) (fun _=>rfl) _ _ _ _ _ rfl rfl) ?_)
 go_wp2_with fail;go_ret;exact⟨G,HGN.out,HGM.out,rfl,by rw[mL.out]⟩
theorem QO {n k G:Nat} {l:List Sg} {y:Sg} {w:World} {base:Nat} (hl:l.length=n) (hk:k<n) (hG:n+1≤G) (hGm:G≤maxLen) (hok:∀ x ∈ l,OkG x) (hy:OkG y) (hbase:base≤w.heap.size) :
 OwnG (((((w.alloc (.cells (eZ l n k G) 50)).drew).setCells w.heap.size (k*20) (aX y)).drew).setCells w.heap.size ((k+1)*20) (aR (l.drop k))) base (.slice (some ⟨w.heap.size,0,none⟩) (n+1) G) (l.take k++y :: l.drop k) ∧
 Below w.heap.size w (((((w.alloc (.cells (eZ l n k G) 50)).drew).setCells w.heap.size (k*20) (aX y)).drew).setCells w.heap.size ((k+1)*20) (aR (l.drop k))):=by
 have hRS:=pT (k:=k) hok hl zo hG;have hdl:(aR (l.drop k)).length=(n-k)*20:=by rw[mV (fun x hx=>hok x (List.mem_of_mem_drop hx)),List.length_drop,hl]
 have cF:∀ (j:Nat) (v:Value),(aR (l.take k))[j]? = some v→(eZ l n k G)[j]? = some v:=fun j v hj=>by
  have hlt:=(List.getElem?_eq_some_iff.1 hj).1;unfold eZ;rw[Array.getElem?_append_left (by simp;omega),Array.getElem?_append_left (by simpa using hlt)];simpa using hj
 have hN0:((w.alloc (.cells (eZ l n k G) 50)).drew).heap[w.heap.size]? = some (.cells (eZ l n k G) 50 (0,0)):=heap_alloc_new w _;have hB0:Below w.heap.size w ((w.alloc (.cells (eZ l n k G) 50)).drew):=((Below.refl _ _).alloc zl _).drew;generalize eZ l n k G=ROW at *;generalize (w.alloc (.cells ROW 50)).drew=W0 at *;obtain⟨cur1,hg1,hsz1,hoff1,hin1,hgr1⟩:=dE w.heap.size 50 (aX y) (k*20) W0 ROW hN0 (by rw[aJ hy,hRS];omega);obtain⟨cur2,hg2,hsz2,hoff2,hin2,hgr2⟩:=dE w.heap.size 50 (aR (l.drop k)) ((k+1)*20) (W0.setCells w.heap.size (k*20) (aX y)).drew cur1 hg1 (by rw[hdl,hsz1,hRS];omega);refine⟨⟨⟨by rw[iF y hl zo,mV (DS k hok hy),iF y hl zo],.inr ⟨w.heap.size,G,cur2,by rw[iF y hl zo],hbase,hg2,by rw[iF y hl zo];exact hG,hGm,by rw[hsz2,hsz1,hRS],?_⟩⟩,DS k hok hy⟩,?_⟩
 ·rw[iF y hl zo];refine zC hok hy zo hl (by rw[hsz2,hsz1,hRS];omega) (fun j v hj=>?_) (fun j v hj=>?_) (fun j v hj=>?_)
  ·have hjl:j<k*20:=by
    have:=(List.getElem?_eq_some_iff.1 hj).1;rw[mV (fun x hx=>hok x (List.mem_of_mem_take hx)),List.length_take,hl] at this;omega
   rw[hoff2 j (.inl zo),hoff1 j (.inl hjl)];exact cF j v hj
  ·have hjl:j<20:=by have:=(List.getElem?_eq_some_iff.1 hj).1;rw[aJ hy] at this;exact this
   rw[hoff2 _ (.inl zo)];exact hin1 j v hj
  ·rw[show k*20+20+j=(k+1)*20+j by omega];exact hin2 j v hj
 ·refine hB0.trans ?_;have h1:Below w.heap.size W0 (W0.setCells w.heap.size (k*20) (aX y)):=cV hgr1 zl hB0.size;exact h1.trans (cV (show (W0.setCells w.heap.size (k*20) (aX y)).grownBy _ _ from ⟨hgr2.os,hgr2.tape,hgr2.output,hgr2.size,hgr2.block⟩) zl (Nat.le_trans hB0.size h1.size))
theorem QK (n:Nat):InsN n:=by
 intro k l y w base sp cap g hk hl hn ho hg hy hbase hlt;by_cases hkn:k=n
 ·subst hkn;refine (GG k l y w base sp cap g hl hn ho hg hy hbase).mono ?_;rintro e w' ⟨sp',cap',rfl,ho',hb,hgr⟩;exact⟨sp',cap',rfl,by rw[List.take_of_length_le zo,List.drop_eq_nil_of_le zo];exact ho',hb,hgr⟩
 ·have hkl:k<n:=by omega
  obtain⟨g0,rfl⟩:∃ g0,sp=some ⟨g0,0,none⟩:=by
   obtain⟨_,⟨e,e0⟩ | ⟨g0,c,cur,e,_⟩⟩:=ho.1
   ·omega
   ·injection e with e1 e2 e3
    exact⟨g0,e1⟩
  have hg0:g0<g:=hlt g0 rfl;by_cases hcap:n+1≤cap
  ·refine (BR n k l y w base g0 cap g hl hkl hn hcap ho hg hy zo).mono ?_;rintro e w' ⟨rfl,rfl⟩;have h:=PL hl hkl hcap ho hy;exact⟨_,_,rfl,h.1,cV h.2.1 h.2.2 hbase,h.2.1⟩
  ·refine (BS n k l y w base g0 cap g hl hkl hn zo ho hg hy).mono ?_;rintro e w' ⟨G,hG,hGm,rfl,rfl⟩;have h:=QO (w:=w) hl hkl hG hGm ho.2 hy hbase;exact⟨_,_,rfl,h.1,h.2.mono hbase,⟨h.2.os,h.2.tape,h.2.output,h.2.size,fun j hj _=>h.2.block j hj⟩⟩
def hf9:List Int:=9 :: List.replicate 15 0
theorem MG:H16 hf9:=⟨rfl,fun y hy=>by
 simp only[hf9,List.mem_cons,List.mem_replicate] at hy;rcases hy with rfl | ⟨_,rfl⟩ <;> omega⟩
def eW:ByteArray:=⟨#[110,111,116,101]⟩
theorem DN {x d:List Int} {h leaf:Nat} (hh:h≤6) (hl:leaf<2 ^ h):tL (mF x h leaf d)=true:=by
 unfold tL mF;show mA (h:Int) (leaf:Int) (jA x (leaf:Int) d).length (eP x (h:Int).toNat (leaf:Int).toNat).length=true;rw[lB,iQ,Int.toNat_natCast];exact PE hh hl
theorem DM {x d:List Int} {h leaf:Nat} (hd:D32 d) (hh:h≤6) (hl:leaf<2 ^ h):IZ d (mF x h leaf d)=true:=by
 unfold IZ mF;show SG (h:Int) (iR x (h:Int).toNat 0) d (leaf:Int) (jA x (leaf:Int) d).length (eP x (h:Int).toNat (leaf:Int).toNat).length (jA x (leaf:Int) d) (eP x (h:Int).toNat (leaf:Int).toNat)=true;rw[lB,iQ,Int.toNat_natCast,Int.toNat_natCast];exact OP hd hh hl
theorem TX (p:Pg):vsB [p]=tL p:=by
 simp[vsB,tF,List.range_succ]
def nP:Pg:=mF hf9 0 0 (fO eW [120])
theorem LE:fM eW [120] []=true:=by decide
theorem yR:fM eW [120] [nP]=true:=by
 have h1:nmB eW.data.toList=true:=by decide
 unfold fM;rw[h1,TX];have:=DN (x:=hf9) (d:=fO eW [120]) (h:=0) (leaf:=0) zo (by decide);rw[show nP=mF hf9 ((0:Nat):Int) ((0:Nat):Int) (fO eW [120]) from rfl,this];rfl
theorem PY:SJ eW [120] [nP]=[idP nP]:=by
 unfold SJ;rw[if_pos yR];have:=DM (x:=hf9) (d:=fO eW [120]) (h:=0) (leaf:=0) (kK _ _) zo (by decide);unfold AI;rw[List.filter_cons,show nP=mF hf9 ((0:Nat):Int) ((0:Nat):Int) (fO eW [120]) from rfl,this];rfl
theorem PZ:qN eW [120] [] hf9 0 0=⟨0,eW,[120],[nP],hf9,0,1⟩:=JZ LE (by decide) rfl (by simp)
theorem EQ (w:World):(Instr.build 42 #[(0,.int .u8 9)]).run Tryz.prog w=.ok (.agg (hvA hf9)) w:=by kernel_rfl
theorem EP (w:World):(Instr.build 52 #[(0,.agg (hvA hf9))]).run Tryz.prog w=.ok (.agg (sgA hf9 0 0)) w:=by kernel_rfl
theorem ES (g:Nat) (w:World):(Instr.build 25 #[(0,.string eW),(1,.slice (some ⟨g,0,none⟩) 1 1)]).run Tryz.prog w=.ok (.agg (enA eW (.slice (some ⟨g,0,none⟩) 1 1) aH)) w:=by kernel_rfl
theorem RM {w:World} {g:Nat} {fr:Nat × Nat} (h:w.heap[g]? = some (.cells #[.int .u8 120] 5 fr)):BSrc w w.heap.size (some ⟨g,0,none⟩) 1 1 [120] :=
 ⟨rfl,fun _=>⟨g,0,rfl,(Array.getElem?_eq_some_iff.1 h).1,Nat.le_refl _,fun j hj=>by
  rcases j with _ | j
  ·exact aG (L:=[.int .u8 120]) h rfl
  ·exact absurd hj (by show ¬ _<1;omega)⟩⟩
theorem CJ (w:World) (hk:KayIn w) (hk0:4<w.heap.size) :
 Calls Tryz.prog 12 #[] w fun e w'=>e=.returned (.bool true)∧Below w.heap.size w w':=by
 have HK:=zh hk;clear hk;have hcs:=Lib.run_convert_bytes_const (P:=Tryz.prog) w 22 5 #[.int .u8 120] 1 1 Tryz.underlying22 Tryz.underlying5;have hb1:=EQ;have hb2:=EP;have hb3:=ES w.heap.size
 go_enter Tryz.func12,Tryz.ntmps12
 go_wp2_with (first
  | (refine bB rfl 42 [(0,.const (.int .u8 9))] rfl [(0,.int .u8 9)] rfl _ (EQ _) ?_)
  | (refine bB rfl 52 [(0,.tmp 8)] rfl [(0,.agg (hvA hf9))] rfl _ (EP _) ?_)
  | (refine bB rfl 25 [(0,.const (.string eW)),(1,.tmp 6)] rfl [(0,.string eW),(1,.slice (some ⟨w.heap.size,0,none⟩) 1 1)] rfl _ (ES _ _) ?_))
 clear hb1 hb2 hb3 hcs;generalize hq:World.alloc w _=w1;have HA:Hid (∃ fr,w1.heap[w.heap.size]? = some (.cells #[.int .u8 120] 5 fr)):=⟨_,by rw[←hq];exact heap_alloc_new _ _⟩;have HAB:Hid (Bw w w1):=by rw[←hq];exact (Below.refl _ _).alloc zl _
 have HAS:Hid (w1.heap.size=w.heap.size+1):=by show _=_;rw[←hq];simp
 clear hq;have HC:Hid (Calls Tryz.prog 29 #[.agg (enA eW (.slice (some ⟨w.heap.size,0,none⟩) 1 1) (.slice none 0 0)),.agg (sgA hf9 0 0)] w1 fun e w'=>∃ sp n cap sq m cq l,e=.returned (.tuple #[.agg (enA eW (.slice sp n cap) (.slice sq m cq)),.agg (sgA hf9 0 1),.int .i64 0])∧Hid (l.map pg=[nP])∧Hid (BSrc w' w'.heap.size sp n cap [120]∧SgsIn w' w'.heap.size sq m cq l)∧Below w1.heap.size w1 w'):=by
  have h:=CB eW (some ⟨w.heap.size,0,none⟩) 1 1 [120] none 0 0 [] hf9 0 0 w1 (by decide) (by obtain⟨fr,h⟩:=HA.out;exact RM h) (fun h=>by cases h) (SgsIn.nil _ _) (fun _=>rfl) (fun y hy=>by cases hy) MG (QK 0) (HK.out.below HAB.out hk0) (by have:=HAB.out.size;omega);rw[show ([]:List Sg).map pg=[] from rfl,PZ] at h;refine h.mono ?_;rintro e w' ⟨p,s,he,⟨l,hl,hin⟩,hb⟩;obtain⟨⟨sp,n,cap,rfl,hp,_⟩,⟨sq,m,cq,rfl,hs,_⟩⟩:=hin.out;exact⟨sp,n,cap,sq,m,cq,l,he,hl,⟨hp,hs⟩,hb⟩
 refine HC.out.mono ?_;rintro e w2 ⟨sp,n,cap,sq,m,cq,l,rfl,HL,HIN,hb⟩;have HB2:Hid (Bw w w2):=HAB.out.trans (hb.mono (by have:=HAS.out;omega));clear hb HC HA
 go_wp2_with (first
  | (generalize hz:World.alloc (World.alloc w2 _) _=w4;have HY4:Hid (w4.heap[w2.heap.size]? = some (.cells zEn 25 (0,0))):=(by rw[←hz];exact (heap_alloc_old _ _ (by simp)).trans (heap_alloc_new w2 _));have HZ4:Hid (w4.heap[w2.heap.size+1]? = some (.cells (sgA bQ 0 0) 52 (0,0))):=(by rw[←hz];have h:=heap_alloc_new (w2.alloc (.cells zEn 25)) (.cells (sgA bQ 0 0) 52);rw[World.size_alloc] at h;exact h);have HB4:Hid (Below w2.heap.size w2 w4):=(by rw[←hz];exact ((Below.refl _ _).alloc zl _).alloc (by simp) _);clear hz;refine wpList_store_row rfl 25 _ _ rfl w2.heap.size (enA eW (.slice sp n cap) (.slice sq m cq)) rfl rfl 25 _ HY4.out (aE _ _ _) rfl (bI _ _ _ _ _ _ _) ?_;generalize hw5:World.setRow w4 _ _=w5;have HY5:Hid (Ah w5 w2.heap.size (enA eW (.slice sp n cap) (.slice sq m cq)) 25):=(by rw[←hw5];exact setRow_heap _ _ _ _ _ _ HY4.out);have HZ5:Hid (Ah w5 (w2.heap.size+1) (sgA bQ 0 0) 52):=(by rw[←hw5];exact (setRow_other _ _ _ _ zo).trans HZ4.out);have HB5:Hid (Below w2.heap.size w2 w5):=(by rw[←hw5];exact below_setRow HB4.out zl _);clear hw5)
  | (refine wpList_store_row rfl 52 _ _ rfl (w2.heap.size+1) (sgA hf9 0 1) rfl rfl 52 _ HZ5.out (aV MG) rfl (dR _ _ _) ?_;generalize hw6:World.setRow w5 _ _=w6;have HY6:Hid (Ah w6 w2.heap.size (enA eW (.slice sp n cap) (.slice sq m cq)) 25):=(by rw[←hw6];exact (setRow_other _ _ _ _ zo).trans HY5.out);have HZ6:Hid (Ah w6 (w2.heap.size+1) (sgA hf9 0 1) 52):=(by rw[←hw6];exact setRow_heap _ _ _ _ _ _ HZ5.out);have HB6:Hid (Bw w2 w6):=(by rw[←hw6];exact below_setRow HB5.out (Nat.le_succ _) _);have c17:w6.cell? ⟨w2.heap.size+1,17,none⟩=some (.int .i64 1):=AW MG HZ6.out;clear hw6)
  | (refine cD (by rfl) 25 _ rfl w2.heap.size 0 rfl _ _ (bC (L:=enL eW (.slice sp n cap) (.slice sq m cq)) HY6.out) Tryz.underlying25 rfl (jK _ _ _) ?_))
 clear c17;have YP:=zh (HB2.out.trans (HB6.out.mono HB2.out.size));have HIN6:Hid (BSrc w6 w6.heap.size sp n cap [120]∧SgsIn w6 w6.heap.size sq m cq l):=⟨(HIN.out.1.below HB6.out zl).more HB6.out.size,HIN.out.2.up HB6.out zl⟩;have hs6:=YP.out.size;have HSG:Hid (SJ eW [120] (l.map pg)=[idP nP]):=by show _=_;rw[HL.out,PY]
 have HVD:Hid (fM eW [120] (l.map pg)=true):=by show _=_;rw[HL.out,yR]
 have hlen:(SJ eW [120] (l.map pg)).length=1:=by rw[HSG.out];rfl
 refine (AT eW sp n cap [120] sq m cq l w6 (by decide) HIN6.out.1 HIN6.out.2 (HK.out.below YP.out hk0) zo).mono ?_;rintro e w7 ⟨sp',cap',rfl,_,hb⟩;have HB7:=zh hb;clear hb;rw[hlen];clear hlen;have HY7:Hid (Ah w7 w2.heap.size (enA eW (.slice sp n cap) (.slice sq m cq)) 25):=(HB7.out.block _ (by have:=(Array.getElem?_eq_some_iff.1 HY6.out).1;exact this)).trans HY6.out;have HBW7:=zh (YP.out.trans (HB7.out.mono hs6));have hs7:=HBW7.out.size;have HCV:=zh (fI eW sp n cap [120] sq m cq l w7 (by decide) ((HIN6.out.1.below HB7.out zl).more HB7.out.size) (HIN6.out.2.up HB7.out zl) (HK.out.below HBW7.out hk0) zo)
 go_wp2_with (refine cD (by rfl) 25 _ rfl w2.heap.size 0 rfl _ _ (bC (L:=enL eW (.slice sp n cap) (.slice sq m cq)) HY7.out) Tryz.underlying25 rfl (jK _ _ _) ?_)
 refine HCV.out.mono ?_;rintro e w8 ⟨rfl,hb⟩;have HB8:=zh hb;clear hb;rw[HVD.out];go_wp2_with fail;go_ret;exact⟨rfl,HBW7.out.trans (HB8.out.mono hs7)⟩
end Go.Proofs.YtaeobegaodhpcaaGreatDoor
namespace Go.Proofs.YtaeobegaodhpcaaGreatDoor
open Go.RowKit
theorem beqI {c:UInt8} {n:UInt8}:(((c.toNat:Nat):Int) == ((n.toNat:Nat):Int))=(c == n):=by
 by_cases h:c=n
 ·subst h;simp
 ·have:¬ c.toNat=n.toNat:=fun e=>h (UInt8.toNat_inj.1 e);rw[beq_eq_false_iff_ne.2 h,beq_eq_false_iff_ne.2 zo]
theorem yT (c:UInt8):nmc c=decide ((97≤(c.toNat:Int)∧(c.toNat:Int)≤122)∨(48≤(c.toNat:Int)∧(c.toNat:Int)≤57)∨(c.toNat:Int)=46∨(c.toNat:Int)=95∨(c.toNat:Int)=45):=by
 have e1:(c == 46)=decide ((c.toNat:Int)=46):=by rw[←beqI];rfl
 have e2:(c == 95)=decide ((c.toNat:Int)=95):=by rw[←beqI];rfl
 have e3:(c == 45)=decide ((c.toNat:Int)=45):=by rw[←beqI];rfl
 unfold nmc ldB dV;rw[e1,e2,e3];simp only[Bool.decide_or,Bool.decide_and,Bool.or_assoc]
theorem LM {c:UInt8} (h:nmc c=true) (h1:((c.toNat:Int) == 46)=false) (h2:((c.toNat:Int) == 95)=false) (h3:((c.toNat:Int) == 45)=false):ldB c.toNat=true:=by
 rw[yT] at h;have h:=of_decide_eq_true h;have h1:=beq_eq_false_iff_ne.1 h1;have h2:=beq_eq_false_iff_ne.1 h2;have h3:=beq_eq_false_iff_ne.1 h3;unfold ldB dV;simp only[←Bool.decide_and,←Bool.decide_or];exact decide_eq_true zo
theorem ZM {c:UInt8} (h:(c.toNat:Int)=46∨(c.toNat:Int)=95∨(c.toNat:Int)=45):ldB c.toNat=false:=by
 unfold ldB dV;simp only[←Bool.decide_and,←Bool.decide_or];exact decide_eq_false zo
theorem UZ {s:ByteArray} (h0:0<s.size) (h:s.data.toList.all nmc=true) (h1:((s[0].toNat:Int) == 46)=false) (h2:((s[0].toNat:Int) == 95)=false) (h3:((s[0].toNat:Int) == 45)=false):(ldB (s[0].toNat) && s.data.toList.all nmc)=true:=by
 have hc : nmc s[0] = true := List.all_eq_true.1 h s[0] (by have : s[0] = s.data.toList[0]'(by simpa using h0) := rfl
                                                            rw[this];exact List.getElem_mem _)
 rw[LM hc h1 h2 h3,h];rfl
theorem BD (s:ByteArray) (w:World) (hs:s.size≤maxLen) :
 Calls Tryz.prog 44 #[.string s] w fun e w'=>e=.returned (.bool (nmB s.data.toList))∧w=w':=by
 unfold maxLen at hs;by_cases h0:s.size=0
 ·have hn:=yU h0;generalize nmB s.data.toList=r at *;have e0:s.toList=[]:=by rw[Lib.toList_data];exact List.eq_nil_of_length_eq_zero (by rw[←Lib.size_eq];exact h0)
  have HN:=zh hn;clear hn
  go_enter Tryz.func44,Tryz.ntmps44
  go_wp2
  go_ret;exact⟨bM HN.out.symm,rfl⟩
 ·have e0:s.toList.isEmpty=false:=by
   rw[Lib.toList_data,List.isEmpty_eq_false_iff];intro h;rw[Lib.size_eq,h] at h0;simp at h0
  have H0:0<s.size:=by omega
  by_cases h64:64<s.size
  ·have HN:=zh (DK h64);generalize nmB s.data.toList=r at *
   go_enter Tryz.func44,Tryz.ntmps44
   go_wp2
   go_ret;exact⟨bM HN.out.symm,rfl⟩
  ·have HN:=zh (DL H0 zo);generalize nmB s.data.toList=r at *;by_cases hh:(s[0].toNat:Int)=46∨(s[0].toNat:Int)=95∨(s[0].toNat:Int)=45
   ·have HL:=zh (ZM hh);rcases hh with hh | hh | hh
    ·have b1:((s[0].toNat:Int) == 46)=true:=beq_iff_eq.2 hh;clear hh
     go_enter Tryz.func44,Tryz.ntmps44
     go_wp2
     go_ret;exact⟨bM (by rw[HN.out,HL.out];rfl),rfl⟩
    ·have b1:((s[0].toNat:Int) == 46)=false:=beq_eq_false_iff_ne.2 zo;have b2:((s[0].toNat:Int) == 95)=true:=beq_iff_eq.2 hh;clear hh
     go_enter Tryz.func44,Tryz.ntmps44
     go_wp2
     go_ret;exact⟨bM (by rw[HN.out,HL.out];rfl),rfl⟩
    ·have b1:((s[0].toNat:Int) == 46)=false:=beq_eq_false_iff_ne.2 zo;have b2:((s[0].toNat:Int) == 95)=false:=beq_eq_false_iff_ne.2 zo;have b3:((s[0].toNat:Int) == 45)=true:=beq_iff_eq.2 hh;clear hh
     go_enter Tryz.func44,Tryz.ntmps44
     go_wp2
     go_ret;exact⟨bM (by rw[HN.out,HL.out];rfl),rfl⟩
   ·have b1:((s[0].toNat:Int) == 46)=false:=beq_eq_false_iff_ne.2 zo;have b2:((s[0].toNat:Int) == 95)=false:=beq_eq_false_iff_ne.2 zo;have b3:((s[0].toNat:Int) == 45)=false:=beq_eq_false_iff_ne.2 zo;clear hh
    go_enter Tryz.func44,Tryz.ntmps44
    go_wp2
    go_loop [3] (fun i=>∃ k:Nat,k≤s.size∧i=.int .i64 k∧Hid ((s.data.toList.take k).all nmc=true)) (fun i=>s.size-(intOf i).toNat)
    case atStart=>exact⟨0,by omega,rfl,rfl⟩
    case round =>
     obtain⟨k,hk,rfl,HA⟩:=hrel;by_cases hlt:k<s.size
     ·have HS:=zh (lV s k hlt);have HC:=zh (yT s[k]);have HF:=zh (fun h=>qA (s:=s) (k:=k) hlt h)
      go_wp2
      all_goals first
       | (go_round
          case rel=>exact⟨k+1,by omega,by go_num,by show _=true;rw[HS.out,List.all_append,HA.out];simp only[List.all_cons,List.all_nil,HC.out,Bool.and_true,Bool.true_and];exact decide_eq_true (by simp_all <;> omega)⟩
          case measure=>simp[intOf];omega)
       | (go_ret
          exact⟨bM (by rw[HN.out,HF.out (by rw[HC.out];exact decide_eq_false (by simp_all <;> omega))];simp),rfl⟩)
     ·go_wp2
      go_ret;exact⟨bM (by rw[HN.out];rw[EL s k zo] at HA;exact (UZ H0 HA.out b1 b2 b3).symm),rfl⟩
end Go.Proofs.YtaeobegaodhpcaaGreatDoor
