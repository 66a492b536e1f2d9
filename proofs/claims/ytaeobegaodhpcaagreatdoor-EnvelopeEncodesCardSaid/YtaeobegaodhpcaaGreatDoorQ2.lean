/-
  The walk of (*digest.hash).finish: it returns the digest of all that the hash has taken (conditions: the hash lies in a block of its own behind the table's, the length is at most 2^40).
-/
import Derived.Test.YtaeobegaodhpcaaGreatDoorZip
import Derived.Test.YtaeobegaodhpcaaGreatDoorQ1
import Derived.ChangeKeysEq
import Derived.Laws.AppendOwnNone
set_option maxRecDepth 100000
set_option maxHeartbeats 8000000
namespace Go.Proofs.YtaeobegaodhpcaaGreatDoor
open Go.RowKit
theorem HashIn.cleared {w w2:World} {hb:Nat} {st:St} {rest:List Int} {used:Nat} {len:Int} (h:HashIn w hb st rest used len) {k n:Nat} (hk:k+n≤64)
 (hg:Hid (w2.heap[hb]? = some (.cells (splice (cF st rest used len) (8+k) (List.replicate n (.int .u8 0))).toArray 186 (0,0)))):HashIn w2 hb st (splice rest k (List.replicate n 0)) used len :=
 h.spliced (by simpa using hk) (by rw[List.map_replicate];exact hg)
theorem pI (hb u:Nat) (h:u<64):∃ dp,(∀ w,(Instr.sliceAt 184 (.pointer (some ⟨hb,8,none⟩)) (some (.int .i64 ((u:Int)+1))) none none).run Tryz.prog w=.ok (.slice dp (63-u) (63-u)) w)∧(0<63-u→dp=some ⟨hb,8+(u+1),none⟩):=by
 by_cases h63:u=63
 ·subst h63;refine⟨some ⟨hb,8,none⟩,fun w=>?_,fun h=>absurd h zo⟩;rw[run_sliceAt_array_l w 184 _ UB .i64 _ zo (by rw[LL];omega),JQ,LL];simp[slicedAt]
 ·refine⟨some ⟨hb,8+(u+1),none⟩,fun w=>?_,fun _=>rfl⟩;have:=oH hb (u+1) zo w;rw[show 64-(u+1)=63-u by omega] at this;rw[←this];rfl
def NZ (hb:Nat) (w:World) (l:List Int) (e:Ending) (w':World):Prop :=
 e=.returned (.agg ((aP (sha l).list).map (Value.int .u8)).toArray)∧Below hb w w'
theorem GO (hb:Nat) (l:List Int) (st:St) (rest:List Int) (used:Nat) (w:World) (hh:HashIn w hb st rest used l.length) (ha:Has l st rest used l.length)
 (hk:KayIn w) (hk0:4<hb) (hbd:l.length≤1099511627776) (hu:used<56) :
 Calls Tryz.prog 160 #[.pointer (some ⟨hb,0,none⟩)] w (NZ hb w l):=by
 have HK:=zh hk;clear hk;have hlt:=hh.lt;have hrl:=hh.rl;have hone:=UJ ha hrl hu;have NV:=zh hone;clear hone;have HA:=zh ha;clear ha;have hres:RowIn (w.alloc (.cells (Array.replicate 32 (Value.int .u8 0)) 77)) w.heap.size 77 .u8 (List.replicate 32 0):=heap_alloc_new _ _;have hh0:=hh.alloc (.cells (Array.replicate 32 (Value.int .u8 0)) 77);have hbe0:Below w.heap.size w (w.alloc (.cells (Array.replicate 32 (Value.int .u8 0)) 77)):=(Below.refl _ _).alloc zl _;have IE:=zh hres;have HH0:=zh hh0;have TS:=zh hbe0;clear hres hh0 hbe0
 go_enter Tryz.func160,Tryz.ntmps160
 go_wp2_with fail;generalize hw0:World.alloc w _=w0;have hres:RowIn w0 w.heap.size 77 .u8 (List.replicate 32 0):=by rw[←hw0];exact IE.out
 have hh0:HashIn w0 hb st rest used l.length:=by rw[←hw0];exact HH0.out
 have hbe0:Below w.heap.size w w0:=by rw[←hw0];exact TS.out
 clear hw0 IE HH0 TS hh;have c72:=hh0.usedAt;have cu:=hh0.byte used zo;have fu:=hh0.free (8+used);go_region;go_wp2_with fail;generalize hw1:World.drew _=w1;have hh1:HashIn w1 hb st (rest.set used 128) used l.length:=by
  rw[←hw1];exact (hh0.stored (8+used) (.int .u8 128) (by rw[List.length_set];exact hrl) (jN _ _ _ _ _ _ hrl zo)).drew
 have hg1:w0.grownBy w1 (some hb):=by rw[←hw1];exact bX (bL (World.grownBy.refl _ _) _ _)
 have hres1:=hres.grown hg1 zo;have hbe1:Below hb w w1:=(hbe0.mono zo).trans (aU hg1 (Nat.le_of_lt hh0.lt));clear hw1 c72 cu fu hg1 hh0 hres hbe0;obtain⟨dp,hsl,hdp⟩:=pI hb used zo;have HDP:=zh hdp;clear hdp;have HB:=zh hh1.blk;have hfit:8+(used+1)+(63-used)≤(cF st (rest.set used 128) used l.length).length:=by rw[dH _ _ _ _ hh1.rl];omega
 have HF:=zh hfit;clear hfit;have c72:=hh1.usedAt;have hwr:IntKind.i64.wrap ((used:Int)+1)=(used:Int)+1:=by simp[IntKind.wrap,IntKind.bits,IntKind.signed];omega
 go_region_law (refine tJ rfl (.tmp 21) 22 rfl 5 Tryz.underlying22 Tryz.zero5b _ _ _ rfl hb (8+(used+1)) _ 186 HB.out HDP.out HF.out w1 (bX (World.grownBy.refl _ _)) ?_;intro w2 hg2 hb2)
 have hh2:=hh1.cleared zo hg2;rw[yW _ _ hrl zo] at hh2;have hres2:=hres1.grown hb2 zo;have hbe2:=hbe1.trans (aU hb2 (Nat.le_of_lt hh1.lt));have hby:Byt (rest.take used++(128 :: List.replicate (63-used) 0)):=(HA.out.hbyt.take _).append (fun x hx=>by
  rcases List.mem_cons.1 hx with h | h
  ·omega
  ·rw[List.eq_of_mem_replicate h];omega)
 have OK:=zh hby;clear hby;clear hsl HDP HF HB hwr hg2 c72 hb2 hbe1 hres1 hh1;have c72:=hh2.usedAt;have c73:=hh2.lenAt;obtain⟨rx,hrx⟩:∃ rx,rx=rest.take used++(128 :: List.replicate (63-used) 0):=⟨_,rfl⟩;rw[←hrx] at hh2 OK NV;clear hrx;go_wp2_with fail;clear c72 c73
 go_loopw [42] (fun i wr=>∃ k:Nat,k≤8∧i=.int .i64 k∧HashIn wr hb st (lS rx (8*(l.length:Int)) k) used l.length∧w2.grownBy wr (some hb)) (fun i _=>8-(intOf i).toNat)
 case atStart=>exact⟨0,by omega,rfl,hh2,World.grownBy.refl _ _⟩
 case round =>
  obtain⟨k,hk8,rfl,hhr,hgr⟩:=hrel;by_cases hlt8:k<8
  ·have cb:=hhr.byte (63-k) zo;have fb:=hhr.free (8+(63-k));go_wp2_with fail;go_region
   go_wp2
   go_roundw
   case rel =>
    exact⟨k+1,by omega,by go_num,(hhr.stored (8+(63-k)) (.int .u8 (lb (8*(l.length:Int)) k)) (by rw[List.length_set];exact hhr.rl) (jN _ _ _ _ _ _ hhr.rl zo)).drew,bX (bL hgr _ _)⟩
   case measure=>simp[intOf];omega
  ·obtain rfl:k=8:=by omega
   have hber:=hbe2.trans (aU hgr (Nat.le_of_lt hh2.lt));have hresr:=hres2.grown hgr zo;go_wp2_with fail;refine (fG hb hb 8 64 (lS rx (8*(l.length:Int)) 8) st _ used _ wr zo (fun j hj=>hhr.byte j hj) hhr.lt (tM _ _ _ OK.out).at_ (HK.out.below hber zo) zo hhr).mono ?_;rintro e w4 ⟨rfl,hh4,hg4⟩;rw[NV.out] at hh4;have hres4:=hresr.grown hg4 zo;have hbe4:=hber.trans (aU hg4 (Nat.le_of_lt hhr.lt));clear hresr hber hres2 hbe2 hh2 hgr hg4 hhr;go_wp2_with fail;refine (uF hb _ _ _ _ w4 hh4).mono ?_;rintro e w5 ⟨rfl,hb5⟩;have hres5:=hres4.below hb5 hres4.lt;have hbe5:=hbe4.trans (hb5.mono (Nat.le_of_lt hh4.lt));clear hres4 hbe4 hb5 hh4;have H2:=zh hres5;clear hres5;have hi1:(Tryz.prog.info? 77).map (·.size)=some ((aP (sha l).list).map (Value.int .u8)).toArray.size:=by
    rw[List.size_toArray,List.length_map,aO,St.list_length];exact Tryz.info25d
   have HI:=zh hi1;clear hi1;have hone:=aW .u8 (aP (sha l).list);have hsz:((List.replicate 32 0).map (Value.int .u8)).toArray.size=((aP (sha l).list).map (Value.int .u8)).toArray.size:=by simp[aO,St.list_length]
   have HO:=zh hone;have HZ:=zh hsz;clear hone hsz;generalize hL:aP (sha l).list=L at *;have HL:=zh hL;clear hL
   go_wp2_with (refine wpList_store_row rfl 77 _ _ rfl w.heap.size _ rfl rfl 77 _ H2.out HI.out HZ.out HO.out ?_)
   exact bodyPost_ret (results_cell_row (P:=Tryz.prog) rfl _ _ w.heap.size 77 _ (0,0) _ rfl (H2.out.setRow _) Tryz.underlying77 rfl HI.out) rfl ⟨by rw[HL.out],below_setRow hbe5 zo _⟩
theorem GN (hb:Nat) (l:List Int) (st:St) (rest:List Int) (used:Nat) (w:World) (hh:HashIn w hb st rest used l.length) (ha:Has l st rest used l.length)
 (hk:KayIn w) (hk0:4<hb) (hbd:l.length≤1099511627776) (hu:56≤used) (hu2:used<64) :
 Calls Tryz.prog 160 #[.pointer (some ⟨hb,0,none⟩)] w (NZ hb w l):=by
 have HK:=zh hk;clear hk;have hlt:=hh.lt;have hrl:=hh.rl;have hone:=UI ha hu;have NV:=zh hone;clear hone;have HA:=zh ha;clear ha;have hres:RowIn (w.alloc (.cells (Array.replicate 32 (Value.int .u8 0)) 77)) w.heap.size 77 .u8 (List.replicate 32 0):=heap_alloc_new _ _;have hh0:=hh.alloc (.cells (Array.replicate 32 (Value.int .u8 0)) 77);have hbe0:Below w.heap.size w (w.alloc (.cells (Array.replicate 32 (Value.int .u8 0)) 77)):=(Below.refl _ _).alloc zl _;have IE:=zh hres;have HH0:=zh hh0;have TS:=zh hbe0;clear hres hh0 hbe0
 go_enter Tryz.func160,Tryz.ntmps160
 go_wp2_with fail;generalize hw0:World.alloc w _=w0;have hres:RowIn w0 w.heap.size 77 .u8 (List.replicate 32 0):=by rw[←hw0];exact IE.out
 have hh0:HashIn w0 hb st rest used l.length:=by rw[←hw0];exact HH0.out
 have hbe0:Below w.heap.size w w0:=by rw[←hw0];exact TS.out
 clear hw0 IE HH0 TS hh;have c72:=hh0.usedAt;have cu:=hh0.byte used zo;have fu:=hh0.free (8+used);go_region;go_wp2_with fail;generalize hw1:World.drew _=w1;have hh1:HashIn w1 hb st (rest.set used 128) used l.length:=by
  rw[←hw1];exact (hh0.stored (8+used) (.int .u8 128) (by rw[List.length_set];exact hrl) (jN _ _ _ _ _ _ hrl zo)).drew
 have hg1:w0.grownBy w1 (some hb):=by rw[←hw1];exact bX (bL (World.grownBy.refl _ _) _ _)
 have hres1:=hres.grown hg1 zo;have hbe1:Below hb w w1:=(hbe0.mono zo).trans (aU hg1 (Nat.le_of_lt hh0.lt));clear hw1 c72 cu fu hg1 hh0 hres hbe0;obtain⟨dp,hsl,hdp⟩:=pI hb used zo;have HDP:=zh hdp;clear hdp;have HB:=zh hh1.blk;have hfit:8+(used+1)+(63-used)≤(cF st (rest.set used 128) used l.length).length:=by rw[dH _ _ _ _ hh1.rl];omega
 have HF:=zh hfit;clear hfit;have c72:=hh1.usedAt;have hwr:IntKind.i64.wrap ((used:Int)+1)=(used:Int)+1:=by simp[IntKind.wrap,IntKind.bits,IntKind.signed];omega
 go_region_law (refine tJ rfl (.tmp 21) 22 rfl 5 Tryz.underlying22 Tryz.zero5b _ _ _ rfl hb (8+(used+1)) _ 186 HB.out HDP.out HF.out w1 (bX (World.grownBy.refl _ _)) ?_;intro w2 hg2 hb2)
 have hh2:=hh1.cleared zo hg2;rw[yW _ _ hrl zo] at hh2;have hres2:=hres1.grown hb2 zo;have hbe2:=hbe1.trans (aU hb2 (Nat.le_of_lt hh1.lt));have hby:Byt (rest.take used++(128 :: List.replicate (63-used) 0)):=(HA.out.hbyt.take _).append (fun x hx=>by
  rcases List.mem_cons.1 hx with h | h
  ·omega
  ·rw[List.eq_of_mem_replicate h];omega)
 have OK:=zh hby;clear hby;clear hsl HDP HF HB hwr hg2 c72 hb2 hbe1 hres1 hh1;have c72:=hh2.usedAt;have c73:=hh2.lenAt;obtain⟨rx,hrx⟩:∃ rx,rx=rest.take used++(128 :: List.replicate (63-used) 0):=⟨_,rfl⟩;rw[←hrx] at hh2 OK NV;clear hrx;have hsa:=xU hb;go_wp2_with fail;clear c72 c73;refine (fG hb hb 8 64 rx st rx used _ w2 zo (fun j hj=>hh2.byte j hj) hh2.lt OK.out.at_ (HK.out.below hbe2 zo) zo hh2).mono ?_;rintro e w3 ⟨rfl,hh3,hg3⟩;have hres3:=hres2.grown hg3 zo;have hbe3:=hbe2.trans (aU hg3 (Nat.le_of_lt hh2.lt));clear hres2 hbe2 hh2 hg3 OK;have HB:=zh hh3.blk;have hfit:8+0+64≤(cF (qV st rx) rx used l.length).length:=by rw[dH _ _ _ _ hh3.rl];omega
 have HF:=zh hfit;clear hfit
 go_wp2_with (refine xG rfl (.tmp 36) 22 rfl 5 Tryz.underlying22 Tryz.zero5b _ _ _ rfl hb (8+0) _ 186 HB.out (fun _=>rfl) HF.out w3 (World.grownBy.refl _ _) ?_;intro w2 hg2 hb2;have hh2:=hh3.cleared zo hg2;have c73:=hh2.lenAt;clear hg2)
 have e0:splice rx 0 (List.replicate 64 0)=List.replicate 64 0:=by
  unfold splice;rw[List.take_zero,List.nil_append,List.drop_eq_nil_of_le (by rw[List.length_replicate,hh3.rl];omega),List.append_nil]
 rw[e0] at hh2;have hres2:=hres3.grown hb2 zo;have hbe2:=hbe3.trans (aU hb2 (Nat.le_of_lt hh3.lt));clear hres3 hbe3 hh3 HB HF hb2 c73 e0
 go_loopw [42] (fun i wr=>∃ k:Nat,k≤8∧i=.int .i64 k∧HashIn wr hb (qV st rx) (lS (List.replicate 64 0) (8*(l.length:Int)) k) used l.length∧w2.grownBy wr (some hb)) (fun i _=>8-(intOf i).toNat)
 case atStart=>exact⟨0,by omega,rfl,hh2,World.grownBy.refl _ _⟩
 case round =>
  obtain⟨k,hk8,rfl,hhr,hgr⟩:=hrel;by_cases hlt8:k<8
  ·have cb:=hhr.byte (63-k) zo;have fb:=hhr.free (8+(63-k));go_wp2_with fail;go_region
   go_wp2
   go_roundw
   case rel =>
    exact⟨k+1,by omega,by go_num,(hhr.stored (8+(63-k)) (.int .u8 (lb (8*(l.length:Int)) k)) (by rw[List.length_set];exact hhr.rl) (jN _ _ _ _ _ _ hhr.rl zo)).drew,bX (bL hgr _ _)⟩
   case measure=>simp[intOf];omega
  ·obtain rfl:k=8:=by omega
   have hber:=hbe2.trans (aU hgr (Nat.le_of_lt hh2.lt));have hresr:=hres2.grown hgr zo;go_wp2_with fail;refine (fG hb hb 8 64 (lS (List.replicate 64 0) (8*(l.length:Int)) 8) (qV st rx) _ used _ wr zo (fun j hj=>hhr.byte j hj) hhr.lt (tM _ _ _ (Byt.zeros 64)).at_ (HK.out.below hber zo) zo hhr).mono ?_;rintro e w4 ⟨rfl,hh4,hg4⟩;rw[NV.out] at hh4;have hres4:=hresr.grown hg4 zo;have hbe4:=hber.trans (aU hg4 (Nat.le_of_lt hhr.lt));clear hresr hber hres2 hbe2 hh2 hgr hg4 hhr;go_wp2_with fail;refine (uF hb _ _ _ _ w4 hh4).mono ?_;rintro e w5 ⟨rfl,hb5⟩;have hres5:=hres4.below hb5 hres4.lt;have hbe5:=hbe4.trans (hb5.mono (Nat.le_of_lt hh4.lt));clear hres4 hbe4 hb5 hh4;have H2:=zh hres5;clear hres5;have hi1:(Tryz.prog.info? 77).map (·.size)=some ((aP (sha l).list).map (Value.int .u8)).toArray.size:=by
    rw[List.size_toArray,List.length_map,aO,St.list_length];exact Tryz.info25d
   have HI:=zh hi1;clear hi1;have hone:=aW .u8 (aP (sha l).list);have hsz:((List.replicate 32 0).map (Value.int .u8)).toArray.size=((aP (sha l).list).map (Value.int .u8)).toArray.size:=by simp[aO,St.list_length]
   have HO:=zh hone;have HZ:=zh hsz;clear hone hsz;generalize hL:aP (sha l).list=L at *;have HL:=zh hL;clear hL
   go_wp2_with (refine wpList_store_row rfl 77 _ _ rfl w.heap.size _ rfl rfl 77 _ H2.out HI.out HZ.out HO.out ?_)
   exact bodyPost_ret (results_cell_row (P:=Tryz.prog) rfl _ _ w.heap.size 77 _ (0,0) _ rfl (H2.out.setRow _) Tryz.underlying77 rfl HI.out) rfl ⟨by rw[HL.out],below_setRow hbe5 zo _⟩
theorem GP (hb:Nat) (l:List Int) (st:St) (rest:List Int) (used:Nat) (len:Int) (w:World) (hh:HashIn w hb st rest used len) (ha:Has l st rest used len)
 (hk:KayIn w) (hk0:4<hb) (hbd:l.length≤1099511627776) :
 Calls Tryz.prog 160 #[.pointer (some ⟨hb,0,none⟩)] w (NZ hb w l):=by
 obtain rfl:=ha.hlen;have hu:=ha.hused;by_cases h:used<56
 ·exact GO hb l st rest used w hh ha hk hk0 hbd h
 ·exact GN hb l st rest used w hh ha hk hk0 hbd zo zo
structure Part where
 sp:Option Addr
 n:Nat
 cap:Nat
 b:List Int
def Part.val (q:Part):Value:=.slice q.sp q.n q.cap
def cat (ps:List Part):List Int:=(ps.map Part.b).flatten
theorem nU (ps:List Part) (k:Nat) (h:k<ps.length):cat (ps.take (k+1))=cat (ps.take k)++ps[k].b:=by
 unfold cat;rw[List.take_succ_eq_append_getElem h,List.map_append,List.flatten_append];simp
theorem sF (ps:List Part) (k:Nat):(cat (ps.take k)).length≤(cat ps).length:=by
 unfold cat;have:ps=ps.take k++ps.drop k:=(List.take_append_drop k ps).symm
 conv=>rhs;rw[this]
 rw[List.map_append,List.flatten_append,List.length_append];exact Nat.le_add_right _ _
theorem Src.more {w:World} {B B':Nat} {sp:Option Addr} {n cap:Nat} {b:List Int} (h:Src w B sp n cap b) (hB:B≤B'):Src w B' sp n cap b :=
 ⟨h.len,h.byt,fun hn=>by
  obtain⟨bb,off,e,hlt,hc,hcell⟩:=h.cells hn;exact⟨bb,off,e,by omega,hc,hcell⟩⟩
structure PartsIn (w:World) (B:Nat) (pa:Option Addr) (np:Nat) (ps:List Part):Prop where
 len:ps.length=np
 cells:0<np→∃ pb po,pa=some ⟨pb,po,none⟩∧pb<B∧∀ j (hj:j<ps.length),w.cell? ⟨pb,po+j,none⟩=some ps[j].val
 srcs:∀ q ∈ ps,Src w B q.sp q.n q.cap q.b
theorem PartsIn.below {w w':World} {B B':Nat} {pa:Option Addr} {np:Nat} {ps:List Part} (h:PartsIn w B pa np ps) (hb:Below B' w w') (hB:B≤B'):PartsIn w' B' pa np ps :=
 ⟨h.len,fun hn=>by
  obtain⟨pb,po,e,hlt,hc⟩:=h.cells hn;exact⟨pb,po,e,by omega,fun j hj=>(hb.cell (p:=⟨pb,po+j,none⟩) (by show pb<B';omega)).trans (hc j hj)⟩,fun q hq=>((h.srcs q hq).below hb hB).more hB⟩
def dg (l:List Int):Array Value:=((aP (sha l).list).map (Value.int .u8)).toArray
def NM (w:World) (l:List Int) (e:Ending) (w':World):Prop:=e=.returned (.agg (dg l))∧Below w.heap.size w w'
theorem JJ (pa:Option Addr) (np ncap:Nat) (ps:List Part) (w:World) (hp:PartsIn w w.heap.size pa np ps) (hk:KayIn w) (hk0:4<w.heap.size) (hbd:(cat ps).length≤1099511627776) (hnp:np≤1099511627776) :
 Calls Tryz.prog 130 #[.slice pa np ncap] w (NM w (cat ps)):=by
 have HK:=zh hk;clear hk;have HP:=zh hp;clear hp;have hres:RowIn (w.alloc (.cells (Array.replicate 32 (Value.int .u8 0)) 77)) w.heap.size 77 .u8 (List.replicate 32 0):=heap_alloc_new _ _;have hbe0:Below w.heap.size w (w.alloc (.cells (Array.replicate 32 (Value.int .u8 0)) 77)):=(Below.refl _ _).alloc zl _;have IE:=zh hres;have TS:=zh hbe0;clear hres hbe0;have hz:=SD
 go_enter Tryz.func130,Tryz.ntmps130
 go_wp2_with fail;generalize hw0:World.alloc w _=w0;have hres:RowIn w0 w.heap.size 77 .u8 (List.replicate 32 0):=by rw[←hw0];exact IE.out
 have hbe0:Below w.heap.size w w0:=by rw[←hw0];exact TS.out
 clear hw0 IE TS;refine (BN w0).mono ?_;rintro e w1 ⟨rfl,hb1⟩;have hres1:=hres.below hb1 hres.lt;have hbe1:=hbe0.trans (hb1.mono hbe0.size);have hsz1:=hres1.lt;clear hb1 hres hbe0;have H0:=zh (heap_alloc_new w1 (.cells IR 186));have HI:Hid ((Tryz.prog.info? 186).map (·.size)=some zJ.size):=Tryz.info60h
 go_wp2_with (refine wpList_store_row rfl 186 _ _ rfl w1.heap.size zJ rfl rfl 186 IR H0.out HI.out rfl zI ?_)
 generalize hw2:World.setRow _ _ _=w2;have hh2:HashIn w2 w1.heap.size iv (List.replicate 64 0) 0 0:=⟨by rw[←hw2];exact setRow_heap _ _ _ _ _ _ H0.out,by simp⟩;have hb2:Below w1.heap.size w1 w2:=by rw[←hw2];exact below_setRow ((Below.refl _ _).alloc zl _) zl _
 have hres2:=hres1.below hb2 hsz1;have hbe2:=hbe1.trans (hb2.mono (Nat.le_of_lt hsz1));have hp2:PartsIn w2 w1.heap.size pa np ps:=(HP.out.below hbe2 zl).below (Below.refl w1.heap.size w2) (Nat.le_of_lt hsz1);have HP2:=zh hp2;have hlen:=hp2.len;have qL:=zh hlen;have hlen1:np≤ps.length:=by omega
 clear hp2 hlen hw2 H0 HI hz hres1 hbe1 hb2 HP;generalize w1.heap.size=g at *
 go_loopw [9] (fun i wr=>∃ k:Nat,k≤np∧i=.int .i64 k∧(∃ st rest used len,HashIn wr g st rest used len∧Has (cat (ps.take k)) st rest used len)∧Below g w2 wr) (fun i _=>np-(intOf i).toNat)
 case atStart=>exact⟨0,by omega,rfl,⟨_,_,_,_,hh2,Has.start _ (Byt.zeros 64)⟩,Below.refl _ _⟩
 case round =>
  obtain⟨k,hkn,rfl,⟨st,rest,used,len,hhr,har⟩,hber⟩:=hrel;have HAR:=zh har;clear har;have hkr:KayIn wr:=HK.out.below (hbe2.trans (hber.mono (Nat.le_of_lt hsz1))) hk0;have HKR:=zh hkr;clear hkr;by_cases hlt:k<np
  ·have hk2:k<ps.length:=by omega
   obtain⟨pb,po,rfl,hpb,hcell⟩:=HP2.out.cells zo;have ck:wr.cell? ⟨pb,po+k,none⟩=some (.slice ps[k].sp ps[k].n ps[k].cap):=(hber.cell (p:=⟨pb,po+k,none⟩) hpb).trans (hcell k hk2);have hsr:Src wr g ps[k].sp ps[k].n ps[k].cap ps[k].b:=(HP2.out.srcs _ (List.getElem_mem hk2)).below hber zl;have HSR:=zh hsr;clear hsr;have hcs:=nU ps k hk2;have hcl:=sF ps (k+1);rw[hcs,List.length_append,HSR.out.len] at hcl;have HCS:=zh hcs;clear hcs hcell;generalize ps[k].sp=sp at *;generalize ps[k].n=n at *;generalize ps[k].cap=cap at *;generalize ps[k].b=b at *;go_wp2_with fail;refine (IS g sp n cap b (cat (ps.take k)) st rest used len wr hhr HAR.out HSR.out HKR.out zo zo).mono ?_;rintro e w3 ⟨rfl,hx,hb3⟩
   go_wp2
   go_roundw
   case rel=>exact⟨k+1,by omega,by go_num,by rw[HCS.out];exact hx,hber.trans hb3⟩
   case measure=>simp[intOf];omega
  ·obtain rfl:k=np:=by omega
   have hall:cat (ps.take k)=cat ps:=by rw[List.take_of_length_le (by rw[qL.out];exact Nat.le_refl _)]
   rw[hall] at HAR;clear hall;go_wp2_with fail;refine (GP g (cat ps) st rest used len wr hhr HAR.out HKR.out zo hbd).mono ?_;rintro e w4 ⟨rfl,hb4⟩;have hres4:=hres2.below (hber.trans hb4) hsz1;have hbe4:=hbe2.trans ((hber.trans hb4).mono (Nat.le_of_lt hsz1));clear hres2 hbe2 hb4 hber hhr HAR;have H2:=zh hres4;clear hres4;have hi1:(Tryz.prog.info? 77).map (·.size)=some ((aP (sha (cat ps)).list).map (Value.int .u8)).toArray.size:=by
    rw[List.size_toArray,List.length_map,aO,St.list_length];exact Tryz.info25d
   have HI:=zh hi1;clear hi1;have hone:=aW .u8 (aP (sha (cat ps)).list);have hsz:((List.replicate 32 0).map (Value.int .u8)).toArray.size=((aP (sha (cat ps)).list).map (Value.int .u8)).toArray.size:=by simp[aO,St.list_length]
   have HO:=zh hone;have HZ:=zh hsz;clear hone hsz;generalize hL:aP (sha (cat ps)).list=L at *;have HL:=zh hL;clear hL
   go_wp2_with (refine wpList_store_row rfl 77 _ _ rfl w.heap.size _ rfl rfl 77 _ H2.out HI.out HZ.out HO.out ?_)
   exact bodyPost_ret (results_cell_row (P:=Tryz.prog) rfl _ _ w.heap.size 77 _ (0,0) _ rfl (H2.out.setRow _) Tryz.underlying77 rfl HI.out) rfl ⟨by rw[dg,HL.out],below_setRow hbe4 zl _⟩
theorem mD {w:World} {g B:Nat} {ps:List Part} (hg:w.heap[g]? = some (.cells (ps.map Part.val).toArray 22 (0,0))) (hlt:g<B) (hs:∀ q ∈ ps,Src w B q.sp q.n q.cap q.b):PartsIn w B (some ⟨g,0,none⟩) ps.length ps :=
 ⟨rfl,fun _=>⟨g,0,rfl,hlt,fun j hj=>by rw[Nat.zero_add];exact gI hg (by simp[hj])⟩,hs⟩
theorem bN {w:World} {g B cap:Nat} {t:TypeId} {L:List Int} (hg:RowIn w g t .u8 L) (hL:Byt L) (hlt:g<B) (hc:L.length≤cap):Src w B (some ⟨g,0,none⟩) L.length cap L :=
 ⟨rfl,hL,fun _=>⟨g,0,rfl,hlt,hc,fun j hj=>by rw[Nat.zero_add];exact hg.get j hj⟩⟩
theorem aA (w:World) (o:Obj):Below w.heap.size w (w.alloc o):=(Below.refl _ _).alloc zl _
theorem aF (w:World) (o:Obj):(w.alloc o).heap.size=w.heap.size+1:=by simp
theorem mC (w:World) (t:TypeId) (k:IntKind) (L:List Int):RowIn (w.alloc (.cells (L.map (Value.int k)).toArray t)) w.heap.size t k L:=heap_alloc_new _ _
theorem kP (l:List Int):(dg l).size=32:=by simp[dg,aO,St.list_length]
theorem nT (l:List Int):(dg l).all (·.oneCell')=true:=aW _ _
theorem iH (l:List Int):(Tryz.prog.info? 77).map (·.size)=some (dg l).size:=by rw[kP];exact Tryz.info25d
def Zrow (w:World) (b:Nat):Prop:=w.heap[b]? = some (.cells (Array.replicate 32 (Value.int .u8 0)) 77 (0,0))
theorem Zrow.new (w:World):Zrow (w.alloc (.cells (Array.replicate 32 (Value.int .u8 0)) 77)) w.heap.size:=heap_alloc_new _ _
theorem Zrow.below {w w':World} {b B:Nat} (h:Zrow w b) (hb:Below B w w') (hlt:b<B):Zrow w' b:=(hb.block b hlt).trans h
theorem Zrow.lt {w:World} {b:Nat} (h:Zrow w b):b<w.heap.size:=(Array.getElem?_eq_some_iff.1 h).1
structure NewZ (w w0:World):Prop where
 z:Zrow w0 w.heap.size
 b:Below w.heap.size w w0
 s:w0.heap.size=w.heap.size+1
theorem NewZ.new (w:World):NewZ w (w.alloc (.cells (Array.replicate 32 (Value.int .u8 0)) 77)):=⟨Zrow.new w,aA _ _,aF _ _⟩
theorem NL (sp:Option Addr) (n cap:Nat) (b:List Int) (w:World) (hs:Src w w.heap.size sp n cap b) (hk:KayIn w) (hk0:4<w.heap.size) (hbd:n≤1099511627776) :
 Calls Tryz.prog 95 #[.slice sp n cap] w (NM w b):=by
 have HK:=zh hk;clear hk;have HS:=zh hs;clear hs;have HN:=zh (NewZ.new w)
 go_enter Tryz.func95,Tryz.ntmps95
 go_wp2_with fail;generalize hw0:World.alloc w _=w0;have hn:NewZ w w0:=by rw[←hw0];exact HN.out
 clear hw0 HN;have hb1:=aA w0 (.cells #[.slice sp n cap] 22);have hs1:=aF w0 (.cells #[.slice sp n cap] 22);have hg1:=heap_alloc_new w0 (.cells #[.slice sp n cap] 22);have hs0:=hn.s;generalize World.alloc w0 _=w1 at *;have hz1:=hn.z.below hb1 hn.z.lt;have hbe1:=hn.b.trans (hb1.mono hn.b.size);have hp:PartsIn w1 w1.heap.size (some ⟨w.heap.size+1,0,none⟩) 1 [⟨sp,n,cap,b⟩]:=by
  refine mD (ps:=[⟨sp,n,cap,b⟩]) ?_ zo ?_
  ·rw[←hs0];exact hg1
  ·intro q hq;rw[List.mem_singleton.1 hq];exact (HS.out.below hbe1 zl).more zo
 have hc:cat [⟨sp,n,cap,b⟩]=b:=by simp[cat]
 refine (JJ _ 1 1 [⟨sp,n,cap,b⟩] w1 hp (HK.out.below hbe1 hk0) zo (by rw[hc,HS.out.len];exact hbd) zo).mono ?_;rintro e w2 ⟨rfl,hb2⟩;rw[hc];clear hb1 hs1 hg1 hn hs0;have hz2:=hz1.below hb2 hz1.lt;have hbe2:=hbe1.trans (hb2.mono hbe1.size);clear hp hc hz1 hb2 hbe1;have H2:=zh hz2;clear hz2
 go_wp2_with (refine wpList_store_row rfl 77 _ _ rfl w.heap.size _ rfl rfl 77 _ H2.out (iH _) (by rw[kP];rfl) (nT _) ?_)
 exact bodyPost_ret (results_cell_row (P:=Tryz.prog) rfl _ _ w.heap.size 77 _ (0,0) _ rfl (setRow_heap _ _ _ _ _ _ H2.out) Tryz.underlying77 rfl (iH _)) rfl ⟨rfl,below_setRow hbe2 zo _⟩
theorem Tryz.info30h:(Tryz.prog.info? 42).map (·.size)=some 16:=by kernel_rfl
def hf (l:List Int):Array Value:=(((aP (sha l).list).take 16).map (Value.int .u8)).toArray
def WX (w:World) (l:List Int) (e:Ending) (w':World):Prop:=e=.returned (.agg (hf l))∧Below w.heap.size w w'
theorem yN (L:List Int) (i:Nat) (h:i<L.length) (w:World):(part 5 (L.map (Value.int .u8)).toArray (i*1)).run Tryz.prog w=.ok (.int .u8 (L.getD i 0)) w:=by
 have hu:(underlying 5).run Tryz.prog w=.ok (.int .u8) w:=run_underlying Tryz.underlying5 w;have hg:=fV L (Value.int .u8) i 0 h;simp[part,isAgg,hu,hg]
theorem WE (d:Nat) (a b:Int) (w:World):(Op.equalIn (d+1) 5 (.int .u8 a) (.int .u8 b)).run Tryz.prog w=.ok (a == b) w:=by
 simp[Op.equalIn,run_underlying Tryz.underlying5]
theorem vT (d:Nat) (X Y:List Int):∀ (is:List Nat) (w:World),(∀ i ∈ is,i<X.length∧i<Y.length) →
 (Op.eqItems (d+1) 5 1 (X.map (Value.int .u8)).toArray (Y.map (Value.int .u8)).toArray is).run Tryz.prog w=.ok (is.all fun i=>X.getD i 0 == Y.getD i 0) w
 | [],w,_=>by simp[Op.eqItems]
 | i :: is, w, h => by
   have hi:=h i (by simp);have ih:=vT d X Y is w (fun j hj=>h j (by simp[hj]));simp only[Op.eqItems,Sem.run_bind,yN X i hi.1,yN Y i hi.2,WE,Result.andThen_ok]
   cases hx:(X.getD i 0 == Y.getD i 0)
   ·rw[List.all_cons,hx];simp
   ·rw[List.all_cons,hx];simpa using ih
theorem pZ (X Y:List Int) (h:X.length=Y.length):((List.range X.length).all fun i=>X.getD i 0 == Y.getD i 0)=decide (X=Y):=by
 by_cases e:X=Y
 ·subst e;simp
 ·simp only[e,decide_false];rw[Bool.eq_false_iff];intro ha;refine e (List.ext_getElem h fun i h1 h2=>?_);have:=List.all_eq_true.1 ha i (by simpa using h1);simpa [List.getD_eq_getElem?_getD,List.getElem?_eq_getElem h1,List.getElem?_eq_getElem h2] using this
theorem eA {P:Program} {w:World} {ops:Array Oper} {rest:List Oper} {o:Oper} {a:Act} {Q:Exit→Act→World→Prop} (hgd:o.guard=none) (s x:Operand) (t e:TypeId)
 (ho:o.op=.call { callee:=.builtin .append,args:=#[s,x],argTypes:=#[t,t] }) (ht:P.underlying t=some (.slice e)) (hi:(P.info? e).map (fun i=>(i.zero,i.size,i.bytes))=some (some (.int .u8 0),1,1))
 (base:Nat) (v:Value) (xs:List Int) (hs:a.eval s=v) (hown:w.ownsRow base e 1 v xs.length (xs.map (Value.int .u8)))
 (sp:Option Addr) (c B:Nat) (b:List Int) (hx:a.eval x=.slice sp b.length c) (hsrc:Src w B sp b.length c b) (hnil:sp=none→c=0)
 (hlen:xs.length+b.length≤1099511627776) (hbase:base≤w.heap.size)
 (h:∀ v' w',Hid (w'.ownsRow base e 1 v' (xs++b).length ((xs++b).map (Value.int .u8)))→w.grownBy w' v.ownBlock→(v'=.slice none 0 0↔v=.slice none 0 0∧b.length=0)→wpList P ops Q rest (a.put o.dst v') w'):wpList P ops Q (o :: rest) a w:=by
 obtain⟨i0,hi0,hz0,hz1,hz2⟩:=info_parts hi
 cases sp with
 | none =>
   have hb:b.length=0:=by
    by_cases h0:0<b.length
    ·obtain⟨_,_,e,_⟩:=hsrc.cells h0;cases e
    ·omega
   have hbn:b=[]:=List.eq_nil_of_length_eq_zero hb;subst hbn;rw[hnil rfl] at hx;refine wpList_append_own_none hgd s x t ho base e i0 1 ht hi0 v xs.length _ hs hown hx ?_;exact h v w (by show World.ownsRow _ _ _ _ _ _ _;simpa using hown) (World.grownBy.refl _ _) (by simp)
 | some ad =>
   refine wpList_append_own w hgd s x t ho base e i0 (.int .u8 0) 1 1 ht hi0 hz0 hz1 hz2 rfl (by decide) v xs.length _ hs hown ad b.length c (b.map (Value.int .u8)) hx (by simp) ?_ (jG _ _) (by unfold maxLen;omega) zo hbase ?_
   ·intro j u hj;have hjb:j<b.length:=by have:=(List.getElem?_eq_some_iff.1 hj).1;simpa using this
    obtain⟨bb,off,ead,_,_,hc⟩:=hsrc.cells zo;injection ead with ead;subst ead
    rw[fV _ _ _ 0 hjb] at hj;injection hj with hj
    rw[Addr.add_mid,hc j hjb,hj]
   ·intro v' w' h1 h2 h3;exact h v' w' (by show World.ownsRow _ _ _ _ _ _ _;rw[List.length_append,List.map_append];exact h1) h2 h3
theorem eK {w:World} {base e:Nat} {v:Value} {xs:List Int} (h:w.ownsRow base e 1 v xs.length (xs.map (Value.int .u8))) (hx:Byt xs):∃ sp cap,v=.slice sp xs.length cap∧Src w w.heap.size sp xs.length cap xs∧(sp=none→cap=0):=by
 obtain⟨_,h | ⟨g,cap,cur,rfl,_,hg,hle,_,hsz,htk⟩⟩:=h
 ·obtain⟨rfl,h0⟩:=h;exact⟨none,0,by rw[h0],⟨rfl,hx,fun hn=>by omega⟩,fun _=>rfl⟩
 ·refine⟨_,cap,rfl,⟨rfl,hx,fun hn=>⟨g,0,rfl,(Array.getElem?_eq_some_iff.1 hg).1,hle,fun j hj=>?_⟩⟩,fun hh=>by cases hh⟩;rw[Nat.zero_add,cell_of_row w g j cur e _ hg];have h1:(cur.toList.take (xs.length*1))[j]? = some (.int .u8 (xs.getD j 0)):=by rw[htk];exact fV _ _ _ 0 hj
  rw[List.getElem?_take,if_pos zo] at h1;simpa using h1
theorem Tryz.info5a:(Tryz.prog.info? 5).map (fun i=>(i.zero,i.size,i.bytes))=some (some (.int .u8 0),1,1):=by kernel_rfl
theorem EW (pa:Option Addr) (np ncap:Nat) (ps:List Part) (w:World) (hp:PartsIn w w.heap.size pa np ps) (hk:KayIn w) (hk0:4<w.heap.size) (hbd:(cat ps).length≤1099511627776) (hnp:np≤1099511627776) :
 Calls Tryz.prog 157 #[.slice pa np ncap] w (WX w (cat ps)):=by
 have HK:=zh hk;clear hk;have HP:=zh hp;clear hp;have HN:=zh (heap_alloc_new w (.cells (Array.replicate 16 (Value.int .u8 0)) 42));have HB:=zh (aA w (.cells (Array.replicate 16 (Value.int .u8 0)) 42));have HS:=zh (aF w (.cells (Array.replicate 16 (Value.int .u8 0)) 42))
 go_enter Tryz.func157,Tryz.ntmps157
 go_wp2_with fail;generalize hw0:World.alloc w _=w0;have hz0:w0.heap[w.heap.size]? = some (.cells (Array.replicate 16 (Value.int .u8 0)) 42 (0,0)):=by rw[←hw0];exact HN.out
 have hb0:Below w.heap.size w w0:=by rw[←hw0];exact HB.out
 have hs0:w0.heap.size=w.heap.size+1:=by rw[←hw0];exact HS.out
 clear hw0 HN HB HS;refine (JJ pa np ncap ps w0 ((HP.out.below hb0 zl).below (Below.refl w0.heap.size w0) zo) (HK.out.below hb0 hk0) zo hbd hnp).mono ?_;rintro e w1 ⟨rfl,hb1⟩;have hz1:=(hb1.block _ (by omega:w.heap.size<w0.heap.size)).trans hz0;have hbe1:=hb0.trans (hb1.mono hb0.size);have hs1:=hb1.size;clear hz0 hb0 hb1;have H1:=zh hz1;clear hz1;have HD:=zh (heap_alloc_new w1 (.cells (Array.replicate 32 (Value.int .u8 0)) 77))
 go_wp2_with (refine wpList_store_row rfl 77 _ _ rfl w1.heap.size _ rfl rfl 77 _ HD.out (iH _) (by rw[kP];rfl) (nT _) ?_;generalize hw2:World.setRow _ _ _=w2)
 have hg2:w2.heap[w1.heap.size]? = some (.cells (dg (cat ps)) 77 (0,0)):=by rw[←hw2];exact setRow_heap _ _ _ _ _ _ HD.out
 have hb2:Below w1.heap.size w1 w2:=by rw[←hw2];exact below_setRow (aA _ _) zl _
 have hs2:w2.heap.size=w1.heap.size+1:=by rw[←hw2];simp
 clear hw2 HD;have hz2:=(hb2.block _ (by omega:w.heap.size<w1.heap.size)).trans H1.out;have hbe2:=hbe1.trans (hb2.mono hbe1.size);have HN:=zh (heap_alloc_new w2 (.cells (Array.replicate 16 (Value.int .u8 0)) 42));have HB:=zh (aA w2 (.cells (Array.replicate 16 (Value.int .u8 0)) 42));generalize hw3:World.alloc w2 _=w3;have hg3:w3.heap[w2.heap.size]? = some (.cells (Array.replicate 16 (Value.int .u8 0)) 42 (0,0)):=by rw[←hw3];exact HN.out
 have hb3:Below w2.heap.size w2 w3:=by rw[←hw3];exact HB.out
 clear hw3 HN HB;have hd3:=(hb3.block _ (by omega:w1.heap.size<w2.heap.size)).trans hg2;have hz3:=(hb3.block _ (by omega:w.heap.size<w2.heap.size)).trans hz2;have hbe3:=hbe2.trans (hb3.mono hbe2.size);rw[hs2] at hg3;clear hb3 hbe2 hz2 hb2 hg2 hbe1 H1;have hl16:(((aP (sha (cat ps)).list).take 16).map (Value.int .u8)).length=Nat.min 32 16:=by simp[aO,St.list_length]
 have hpos:∀ j v,(((aP (sha (cat ps)).list).take 16).map (Value.int .u8))[j]? = some v→w3.cell? ((⟨w1.heap.size,0,none⟩:Addr).add j)=some v:=by
  intro j v hv;rw[Addr.add_mid,Nat.zero_add];refine gI hd3 ?_;rw[List.map_take,List.getElem?_take] at hv
  split at hv
  ·exact hv
  ·cases hv
 have HP2:=zh hpos;have HL:=zh hl16;clear hpos hl16;have hone:=jG .u8 ((aP (sha (cat ps)).list).take 16);have HO:=zh hone;clear hone;have HG:=zh (show w3.heap[w1.heap.size+1]? = some (.cells (List.replicate 16 (Value.int .u8 0)).toArray 42 (0,0)) by rw[hg3];rfl);obtain⟨c,hc⟩:∃ c,c=((aP (sha (cat ps)).list).take 16).map (Value.int .u8):=⟨_,rfl⟩;rw[←hc] at HP2 HL HO;have HC:=zh hc;clear hc hg3 hd3;have HZ:=zh hz3;clear hz3
 go_region_law (refine step_copy_splice rfl (.tmp 7) (.tmp 8) 22 22 rfl 5 Tryz.underlying22 Tryz.info5b _ _ _ _ _ _ rfl rfl (w1.heap.size+1) 0 _ 42 HG.out c HL.out (fun _=>⟨rfl,_,rfl,HP2.out⟩) (by rw[HL.out];simp) HO.out (w1.heap.size+1) w3 ((Below.refl _ _).drew) zl ?_;intro w4 hg4 hb4)
 have hcl:c.length=16:=by rw[HL.out];rfl
 have hsp:splice (List.replicate 16 (Value.int .u8 0)) 0 c=c:=by
  unfold splice;rw[List.take_zero,List.nil_append,List.drop_eq_nil_of_le (by rw[hcl];simp),List.append_nil]
 have hg5:w4.heap[w1.heap.size+1]? = some (.cells c.toArray 42 (0,0)):=by rw[hg4.out,hsp]
 have hz5:w4.heap[w.heap.size]? = some (.cells (Array.replicate 16 (Value.int .u8 0)) 42 (0,0)):=(hb4.block _ zo).trans HZ.out;have hbe5:=hbe3.trans (hb4.mono zo);have hi:(Tryz.prog.info? 42).map (·.size)=some c.toArray.size:=by rw[List.size_toArray,hcl];exact Tryz.info30h
 have HI:=zh hi;have HG5:=zh hg5;have HZ5:=zh hz5;have hone2:c.toArray.all (·.oneCell')=true:=all_oneCell_toArray HO.out;have HO2:=zh hone2;have HSZ:=zh (show (Array.replicate 16 (Value.int .u8 0)).size=c.toArray.size by simp[hcl]);clear hi hg5 hz5 hcl hsp hone2 hb4 hg4 HP2 HL HG hbe3 HZ
 go_wp2_with (first
  | (refine wpList_load_row rfl 42 _ rfl (w1.heap.size+1) rfl 42 _ (0,0) _ HG5.out Tryz.underlying42 rfl HI.out ?_)
  | (refine wpList_store_row rfl 42 _ _ rfl w.heap.size _ rfl rfl 42 _ HZ5.out HI.out HSZ.out HO2.out ?_))
 exact bodyPost_ret (results_cell_row (P:=Tryz.prog) rfl _ _ w.heap.size 42 _ (0,0) _ rfl (setRow_heap _ _ _ _ _ _ HZ5.out) Tryz.underlying42 rfl HI.out) rfl ⟨by rw[HC.out];rfl,below_setRow hbe5 zl _⟩
end Go.Proofs.YtaeobegaodhpcaaGreatDoor
namespace Go.Proofs.YtaeobegaodhpcaaGreatDoor.One
open Go
def dV (x:Int):List Int:=[x / 64 % 4,x / 16 % 4,x / 4 % 4,x % 4]
def nF:List Int→Int
 | []=>0
 | x :: t=>(3-x)+nF t
def qI (d:List Int):List Int:=(d.take 16).flatMap dV
def digs (d:List Int):List Int:=qI d++dV (nF (qI d))
theorem BP (a b:List Int):nF (a++b)=nF a+nF b:=by
 induction a with
 | nil=>simp[nF]
 | cons x t ih=>simp only[List.cons_append,nF,ih];omega
theorem dJ (x:Int):(dV x).length=4:=rfl
theorem jO (l:List Int):(l.flatMap dV).length=4*l.length:=by
 induction l with
 | nil=>rfl
 | cons x t ih=>rw[List.flatMap_cons,List.length_append,ih,dJ,List.length_cons];omega
theorem fJ {d:List Int} (h:d.length=32):(qI d).length=64:=by
 unfold qI;rw[jO,List.length_take,h];rfl
theorem cX {d:List Int} (h:d.length=32):(digs d).length=68:=by
 unfold digs;rw[List.length_append,fJ h,dJ]
theorem oZ {x y:Int} (h:y ∈ dV x):0≤y∧y≤3:=by
 simp only[dV,List.mem_cons,List.not_mem_nil,or_false] at h;rcases h with rfl | rfl | rfl | rfl <;> omega
theorem lH {l:List Int} {y:Int} (h:y ∈ l.flatMap dV):0≤y∧y≤3:=by
 obtain⟨x,_,hy⟩:=List.mem_flatMap.1 h;exact oZ hy
theorem GT {d:List Int} {y:Int} (h:y ∈ digs d):0≤y∧y≤3:=by
 unfold digs at h;rcases List.mem_append.1 h with h | h
 ·exact lH h
 ·exact oZ h
theorem oR {l:List Int} (h:∀ y ∈ l,0≤y∧y≤3):0≤nF l∧nF l≤3*l.length:=by
 induction l with
 | nil=>simp[nF]
 | cons x t ih =>
   have h1:=h x (by simp);have h2:=ih (fun y hy=>h y (by simp[hy]));simp only[nF,List.length_cons];omega
theorem ST {d:List Int} (h:d.length=32):0≤nF (qI d)∧nF (qI d)≤192:=by
 have:=oR (l:=qI d) (fun y hy=>lH hy);rw[fJ h] at this;omega
end Go.Proofs.YtaeobegaodhpcaaGreatDoor.One
namespace Go.Proofs.YtaeobegaodhpcaaGreatDoor
open Go
def zed:List Int:=List.replicate 32 0
end Go.Proofs.YtaeobegaodhpcaaGreatDoor
