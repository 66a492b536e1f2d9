/-
  The walks of digest.newHash and (*digest.hash).digest (condition: the hash lies in a block of its own).
-/
import Derived.Test.YtaeobegaodhpcaaGreatDoorZip
import Derived.Test.YtaeobegaodhpcaaGreatDoorQ0
import Derived.Deep.RegionLaw
set_option maxRecDepth 100000
set_option maxHeartbeats 8000000
namespace Go.Proofs.YtaeobegaodhpcaaGreatDoor
open Go.RowKit
theorem Tryz.info60h:(Tryz.prog.info? 186).map (·.size)=some 74:=by kernel_rfl
theorem Tryz.info25d:(Tryz.prog.info? 77).map (·.size)=some 32:=by kernel_rfl
def zst:St:=⟨0,0,0,0,0,0,0,0⟩
def IR:Array Value:=(cF zst (List.replicate 64 0) 0 0).toArray
def zJ:Array Value:=(cF iv (List.replicate 64 0) 0 0).toArray
theorem SD (w:World):(zeroValue 186).run Tryz.prog w=.ok (.agg IR) w:=by kernel_rfl
theorem NH (w:World):(Instr.build 148 #[(0,.int .u32 1779033703),(1,.int .u32 3144134277),(2,.int .u32 1013904242),(3,.int .u32 2773480762),(4,.int .u32 1359893119),(5,.int .u32 2600822924),(6,.int .u32 528734635),(7,.int .u32 1541459225)]).run Tryz.prog w=.ok (.agg #[.int .u32 1779033703,.int .u32 3144134277,.int .u32 1013904242,.int .u32 2773480762,.int .u32 1359893119,.int .u32 2600822924,.int .u32 528734635,.int .u32 1541459225]) w:=by kernel_rfl
theorem WT (w:World):(Instr.build 186 #[(0,.agg #[.int .u32 1779033703,.int .u32 3144134277,.int .u32 1013904242,.int .u32 2773480762,.int .u32 1359893119,.int .u32 2600822924,.int .u32 528734635,.int .u32 1541459225])]).run Tryz.prog w=.ok (.agg zJ) w:=by kernel_rfl
theorem zI:zJ.all (·.oneCell')=true:=by decide +kernel
theorem BN (w:World) :
 Calls Tryz.prog 158 #[] w fun e w'=>e=.returned (.agg zJ)∧Below w.heap.size w w':=by
 have hz:=SD;have h49:=NH;have h60:=WT;have H0:=zh (heap_alloc_new w (.cells IR 186));have HI:Hid ((Tryz.prog.info? 186).map (·.size)=some zJ.size):=Tryz.info60h
 go_enter Tryz.func158,Tryz.ntmps158
 go_wp2_with (refine wpList_store_row rfl 186 _ _ rfl w.heap.size zJ rfl rfl 186 IR H0.out HI.out rfl zI ?_)
 refine bodyPost_ret (results_cell_row (P:=Tryz.prog) rfl _ _ w.heap.size 186 zJ (0,0) _ rfl (setRow_heap _ _ _ _ _ _ H0.out) Tryz.underlying186 rfl HI.out) rfl ⟨rfl,below_setRow ((Below.refl _ _).alloc zl _) zl _⟩
def wb (x:Int):List Int:=[(x / 16777216) % 256,(x / 65536) % 256,(x / 256) % 256,x % 256]
def aP:List Int→List Int
 | []=>[]
 | x :: r=>wb x++aP r
theorem aO (l:List Int):(aP l).length=4*l.length:=by
 induction l with
 | nil=>rfl
 | cons x r ih=>simp[aP,wb,ih];omega
theorem vX (a b:List Int):aP (a++b)=aP a++aP b:=by
 induction a with
 | nil=>rfl
 | cons x r ih=>simp[aP,ih]
theorem kY (l:List Int) (k:Nat) (h:k<l.length):l.take (k+1)=l.take k++[l.getD k 0]:=by
 rw[List.take_succ_eq_append_getElem h];simp[List.getD_eq_getElem?_getD,List.getElem?_eq_getElem h]
theorem ML (l:List Int) (a b c d:Int) (n m:Nat) (hn:l.length=n) (hm:n+4≤m) :
 ((((aQ m l).set n a).set (n+1) b).set (n+2) c).set (n+3) d=aQ m (l++[a,b,c,d]):=by
 subst hn;rw[eO _ _ _ zo];have h1:=eO m (l++[a]) b (by simp;omega);have h2:=eO m (l++[a]++[b]) c (by simp;omega);have h3:=eO m (l++[a]++[b]++[c]) d (by simp;omega);simp only[List.length_append,List.append_assoc,List.singleton_append,List.length_cons,List.length_nil] at h1 h2 h3;rw[h1,h2,h3];rfl
theorem ZS (st:St) (k:Nat) (hk:k<8) (w:World):(Instr.index 148 (.agg #[.int .u32 st.a,.int .u32 st.b,.int .u32 st.c,.int .u32 st.d,.int .u32 st.e,.int .u32 st.f,.int .u32 st.g,.int .u32 st.h]) (.int .i64 k)).run Tryz.prog w=.ok (.int .u32 (st.list.getD k 0)) w:=by
 rcases (by omega:k=0∨k=1∨k=2∨k=3∨k=4∨k=5∨k=6∨k=7) with rfl | rfl | rfl | rfl | rfl | rfl | rfl | rfl <;> kernel_rfl
structure DigAt (B:Nat) (w wr:World) (L:List Int):Prop where
 row:RowIn wr (B+1) 77 .u8 L
 res:RowIn wr B 77 .u8 (List.replicate 32 0)
 bel:Below B w wr
 size:wr.heap.size=B+2
theorem DigAt.start (w:World):DigAt w.heap.size w ((w.alloc (.cells (Array.replicate 32 (Value.int .u8 0)) 77)).alloc (.cells (Array.replicate 32 (Value.int .u8 0)) 77)) (aQ 32 []) :=
 ⟨heap_alloc2_new _ _ _,heap_alloc2_old _ _ _,((Below.refl _ _).alloc zl _).alloc (by simp) _,by simp⟩
theorem DigAt.put {B:Nat} {w wr:World} {L:List Int} (h:DigAt B w wr L) (i:Nat) (v:Int):DigAt B w (wr.setCell ⟨B+1,i,none⟩ (.int .u8 v)) (L.set i v) :=
 ⟨h.row.put i v,h.res.put_other _ _ (by simp),h.bel.setCell (by simp) _,by simp[World.setCell,h.size]⟩
theorem DigAt.four {B:Nat} {w wr:World} {l:List Int} (h:DigAt B w wr (aQ 32 l)) (n:Nat) (hn:l.length=n) (hm:n+4≤32) (x:Int) :
 DigAt B w ((((wr.setCell ⟨B+1,n,none⟩ (.int .u8 (x / 16777216 % 256))).setCell ⟨B+1,n+1,none⟩ (.int .u8 (x / 65536 % 256))).setCell ⟨B+1,n+2,none⟩ (.int .u8 (x / 256 % 256))).setCell ⟨B+1,n+3,none⟩ (.int .u8 (x % 256))) (aQ 32 (l++wb x)):=by
 have:=(((h.put n (x / 16777216 % 256)).put (n+1) (x / 65536 % 256)).put (n+2) (x / 256 % 256)).put (n+3) (x % 256);rw[ML _ _ _ _ _ _ _ hn hm] at this;exact this
theorem uF (hb:Nat) (st:St) (rest:List Int) (used:Nat) (len:Int) (w:World) (hh:HashIn w hb st rest used len) :
 Calls Tryz.prog 175 #[.pointer (some ⟨hb,0,none⟩)] w fun e w'=>e=.returned (.agg ((aP st.list).map (Value.int .u8)).toArray)∧Below w.heap.size w w':=by
 have d0:w.cell? ⟨hb,0,none⟩=some (.int .u32 st.a):=hh.word 0 zo;have d1:w.cell? ⟨hb,1,none⟩=some (.int .u32 st.b):=hh.word 1 zo;have d2:w.cell? ⟨hb,2,none⟩=some (.int .u32 st.c):=hh.word 2 zo;have d3:w.cell? ⟨hb,3,none⟩=some (.int .u32 st.d):=hh.word 3 zo;have d4:w.cell? ⟨hb,4,none⟩=some (.int .u32 st.e):=hh.word 4 zo;have d5:w.cell? ⟨hb,5,none⟩=some (.int .u32 st.f):=hh.word 5 zo;have d6:w.cell? ⟨hb,6,none⟩=some (.int .u32 st.g):=hh.word 6 zo;have d7:w.cell? ⟨hb,7,none⟩=some (.int .u32 st.h):=hh.word 7 zo;have hlt:=hh.lt
 go_enter Tryz.func175,Tryz.ntmps175
 go_wp2_with fail
 go_loopw [10] (fun i wr=>∃ k:Nat,k≤8∧i=.int .i64 k∧DigAt w.heap.size w wr (aQ 32 (aP (st.list.take k)))) (fun i _=>8-(intOf i).toNat)
 case atStart=>exact⟨0,by omega,rfl,DigAt.start w⟩
 case round =>
  obtain⟨k,hk,rfl,hS⟩:=hrel;clear d0 d1 d2 d3 d4 d5 d6 d7;by_cases hlt:k<8
  ·have hd:(aP (st.list.take k)).length=4*k:=by rw[aO,List.length_take,St.list_length];omega
   have hl:(aQ 32 (aP (st.list.take k))).length=32:=cI _ _ zo;have c0:=hS.row.get (4*k) zo;have f0:=hS.row.free (4*k);have c1:=hS.row.get (4*k+1) zo;have f1:=hS.row.free (4*k+1);have c2:=hS.row.get (4*k+2) zo;have f2:=hS.row.free (4*k+2);have c3:=hS.row.get (4*k+3) zo;have f3:=hS.row.free (4*k+3);have E:Hid (aP (st.list.take (k+1))=aP (st.list.take k)++wb (st.list.getD k 0)):=by
    show _=_;rw[kY _ _ (by rw[St.list_length];exact hlt),vX];rfl
   have hix:=ZS st k hlt;have HD:=zh hd;clear hd hl;generalize st.list.getD k 0=x at *
   go_wp2
   go_roundw
   case rel =>
    refine⟨k+1,by omega,by go_num,?_⟩;rw[E.out];exact hS.four (4*k) HD.out zo x
   case measure=>simp[intOf];omega
  ·obtain rfl:k=8:=by omega
   have hl:(aQ 32 (aP (st.list.take 8)))=aP st.list:=gJ _ _ rfl;rw[hl] at hS;have H1:=zh hS.row;have H2:=zh hS.res;have hi1:(Tryz.prog.info? 77).map (·.size)=some ((aP st.list).map (Value.int .u8)).toArray.size:=by
    rw[List.size_toArray,List.length_map,aO,St.list_length];exact Tryz.info25d
   have HI:=zh hi1;clear hi1 hl;have hone:=aW .u8 (aP st.list);have hsz:((List.replicate 32 0).map (Value.int .u8)).toArray.size=((aP st.list).map (Value.int .u8)).toArray.size:=by simp[aO,St.list_length]
   have HO:=zh hone;have HZ:=zh hsz;clear hone hsz;generalize hL:aP st.list=L at *;have HL:=zh hL;clear hL
   go_wp2_with (first
    | (refine wpList_load_row rfl 77 _ rfl (w.heap.size+1) rfl 77 _ (0,0) _ H1.out Tryz.underlying77 rfl HI.out ?_)
    | (refine wpList_store_row rfl 77 _ _ rfl w.heap.size _ rfl rfl 77 _ H2.out HI.out HZ.out HO.out ?_))
   exact bodyPost_ret (results_cell_row (P:=Tryz.prog) rfl _ _ w.heap.size 77 _ (0,0) _ rfl (H2.out.setRow _) Tryz.underlying77 rfl HI.out) rfl ⟨by rw[HL.out],below_setRow hS.bel zl _⟩
end Go.Proofs.YtaeobegaodhpcaaGreatDoor
namespace Go.Proofs.YtaeobegaodhpcaaGreatDoor
open Go
def Byt (l:List Int):Prop:=∀ x ∈ l,0≤x∧x<256
theorem Byt.at_ {l:List Int} (h:Byt l) (j:Nat):0≤l.getD j 0∧l.getD j 0<256:=by
 rw[List.getD_eq_getElem?_getD];by_cases hj:j<l.length
 ·rw[List.getElem?_eq_getElem hj];exact h _ (List.getElem_mem hj)
 ·rw[List.getElem?_eq_none zo];simp
theorem Byt.take {l:List Int} (h:Byt l) (k:Nat):Byt (l.take k):=fun x hx=>h x (List.mem_of_mem_take hx)
theorem Byt.drop {l:List Int} (h:Byt l) (k:Nat):Byt (l.drop k):=fun x hx=>h x (List.mem_of_mem_drop hx)
theorem Byt.append {a b:List Int} (ha:Byt a) (hb:Byt b):Byt (a++b):=fun x hx=>by
 rcases List.mem_append.1 hx with h | h
 ·exact ha x h
 ·exact hb x h
theorem Byt.splice {a b:List Int} (ha:Byt a) (hb:Byt b) (k:Nat):Byt (splice a k b):=(ha.take k).append (hb.append (ha.drop _))
theorem Byt.zeros (n:Nat):Byt (List.replicate n 0):=fun x hx=>by rw[List.eq_of_mem_replicate hx];omega
theorem Byt.set {l:List Int} (h:Byt l) (i:Nat) (v:Int) (h0:0≤v) (h1:v<256):Byt (l.set i v):=fun x hx=>by
 rcases List.mem_or_eq_of_mem_set hx with h' | h'
 ·exact h x h'
 ·subst h';exact⟨h0,h1⟩
theorem EI (l b:List Int) (k:Nat):(l++b).drop (l.length+k)=b.drop k:=by
 rw[List.drop_append,(show l.drop (l.length+k)=[] from List.drop_eq_nil_of_le zo),Nat.add_sub_cancel_left,List.nil_append]
theorem fA (m:Nat) (s:St) (a b:List Int) (h:64*m≤a.length):sM m s (a++b)=sM m s a:=by
 induction m generalizing s a with
 | zero=>rfl
 | succ m ih =>
   show sM m (qV s ((a++b).take 64)) ((a++b).drop 64)=sM m (qV s (a.take 64)) (a.drop 64);rw[List.take_append_of_le_length zo,List.drop_append_of_le_length zo,ih _ _ (by rw[List.length_drop];omega)]
theorem iX (m:Nat) (s:St) (a:List Int):sM (m+1) s a=qV (sM m s a) ((a.drop (64*m)).take 64):=by
 induction m generalizing s a with
 | zero=>rfl
 | succ m ih =>
   show sM (m+1) (qV s (a.take 64)) (a.drop 64)=qV (sM m (qV s (a.take 64)) (a.drop 64)) _;rw[ih,List.drop_drop];congr 3;omega
structure Has (l:List Int) (st:St) (rest:List Int) (used:Nat) (len:Int):Prop where
 hst:st=sM (l.length / 64) iv l
 hused:used=l.length % 64
 hlen:len=l.length
 htail:rest.take used=l.drop (64*(l.length / 64))
 hbyt:Byt rest
structure Mid (l b:List Int) (k:Nat) (st:St):Prop where
 le:k≤b.length
 whole:(l.length+k) % 64=0
 hst:st=sM ((l.length+k) / 64) iv (l++b)
theorem Has.start (rest:List Int) (h:Byt rest):Has [] iv rest 0 0:=⟨rfl,rfl,rfl,rfl,h⟩
theorem Has.mid0 {l:List Int} {st:St} {rest:List Int} {len:Int} (h:Has l st rest 0 len) (b:List Int):Mid l b 0 st :=
 ⟨Nat.zero_le _,by rw[Nat.add_zero];exact h.hused.symm,by rw[Nat.add_zero,fA _ _ _ _ zo];exact h.hst⟩
theorem lZ {l:List Int} (k:Nat) (c:List Int) (h:k≤l.length):(splice l k c).take (k+c.length)=l.take k++c:=by
 unfold splice;have hk:(l.take k).length=k:=by rw[List.length_take];omega
 rw[List.take_append,hk,Nat.add_sub_cancel_left,List.take_of_length_le zo,List.take_append_of_le_length zl,List.take_length]
theorem Has.mid1 {l:List Int} {st:St} {rest:List Int} {used:Nat} {len:Int} (h:Has l st rest used len) (b:List Int) (hr:rest.length=64) (_h0:0<used) (h1:64≤used+b.length) :
 Mid l b (64-used) (qV st (splice rest used (b.take (64-used)))):=by
 have hu:=h.hused;have hlt:used<64:=by omega
 have hb:(b.take (64-used)).length=64-used:=by rw[List.length_take];omega
 have hd:(l.drop (64*(l.length / 64))).length=used:=by rw[List.length_drop];omega
 refine⟨by omega,by omega,?_⟩;have e:(l.length+(64-used)) / 64=l.length / 64+1:=by omega
 rw[e,iX,fA _ _ _ _ zo,←h.hst];congr 1;have hs:=lZ (l:=rest) used (b.take (64-used)) zo;rw[hb,show used+(64-used)=64 by omega] at hs;rw[List.take_of_length_le (by rw[length_splice _ _ _ (by rw[hb,hr];omega),hr];omega)] at hs;rw[hs,h.htail,List.drop_append_of_le_length zo,List.take_append,hd,List.take_of_length_le (l:=List.drop (64*(l.length / 64)) l) zo]
theorem Mid.step {l b:List Int} {k:Nat} {st:St} (h:Mid l b k st) (hk:k+64≤b.length):Mid l b (k+64) (qV st ((b.drop k).take 64)):=by
 have hw:=h.whole;refine⟨hk,by omega,?_⟩;have e:(l.length+(k+64)) / 64=(l.length+k) / 64+1:=by omega
 rw[e,iX,←h.hst];congr 2;have e2:64*((l.length+k) / 64)=l.length+k:=by omega
 rw[e2,EI]
theorem Mid.fin {l b:List Int} {k:Nat} {st:St} (h:Mid l b k st) (hk:b.length<k+64) {rest:List Int} (_hr:rest.length=64) (hby:Byt rest) (hbb:Byt b) :
 Has (l++b) st (splice rest 0 (b.drop k)) (b.length-k) ((l.length:Int)+b.length):=by
 have hw:=h.whole;have hle:=h.le;have hd:(b.drop k).length=b.length-k:=List.length_drop;have hlen:(l++b).length=l.length+b.length:=List.length_append;have e1:(l.length+b.length) / 64=(l.length+k) / 64:=by omega
 refine⟨by rw[hlen,e1];exact h.hst,by rw[hlen];omega,by rw[hlen];simp,?_,hby.splice (hbb.drop k) 0⟩;have hs:=lZ (l:=rest) 0 (b.drop k) zo;rw[hd,Nat.zero_add,List.take_zero,List.nil_append] at hs;rw[hs,hlen,e1];have e2:64*((l.length+k) / 64)=l.length+k:=by omega
 rw[e2,EI]
theorem Has.small {l:List Int} {st:St} {rest:List Int} {used:Nat} {len:Int} (h:Has l st rest used len) (b:List Int) (hr:rest.length=64) (h1:used+b.length<64) (hbb:Byt b) :
 Has (l++b) st (splice rest used b) (used+b.length) (len+b.length):=by
 have hu:=h.hused;have hlen:(l++b).length=l.length+b.length:=List.length_append;have e1:(l.length+b.length) / 64=l.length / 64:=by omega
 refine⟨by rw[hlen,e1,fA _ _ _ _ zo];exact h.hst,by rw[hlen];omega,by rw[hlen,h.hlen];simp,?_,h.hbyt.splice hbb used⟩;rw[lZ _ _ zo,h.htail,hlen,e1,List.drop_append_of_le_length zo]
end Go.Proofs.YtaeobegaodhpcaaGreatDoor
namespace Go.Proofs.YtaeobegaodhpcaaGreatDoor
open Go.RowKit
structure Src (w:World) (B:Nat) (sp:Option Addr) (n cap:Nat) (b:List Int):Prop where
 len:b.length=n
 byt:Byt b
 cells:0<n→∃ bb off,sp=some ⟨bb,off,none⟩∧bb<B∧n≤cap∧∀ j,j<n→w.cell? ⟨bb,off+j,none⟩=some (.int .u8 (b.getD j 0))
theorem Src.pos {w:World} {B:Nat} {sp:Option Addr} {n cap:Nat} {b:List Int} (h:Src w B sp n cap b) (hp:0<(b.map (Value.int .u8)).length):∃ ad,sp=some ad∧∀ j v,(b.map (Value.int .u8))[j]? = some v→w.cell? (ad.add j)=some v:=by
 have hl:=h.len;rw[List.length_map] at hp;obtain⟨bb,off,rfl,_,_,hc⟩:=h.cells zo;refine⟨_,rfl,fun j v hv=>?_⟩;have hj:j<b.length:=by have:=(List.getElem?_eq_some_iff.1 hv).1;simpa using this
 rw[fV _ _ _ 0 hj] at hv;injection hv with hv
 rw[Addr.add_mid,hc j zo,hv]
theorem jG (k:IntKind) (b:List Int):∀ v ∈ b.map (Value.int k),v.oneCell'=true:=fun v hv=>by
 simp at hv;obtain⟨x,_,rfl⟩:=hv;rfl
theorem dH (st:St) (rest:List Int) (used:Nat) (len:Int) (h:rest.length=64):(cF st rest used len).length=74:=by simp[cF,St.list,h]
theorem Src.below {w w':World} {B B':Nat} {sp:Option Addr} {n cap:Nat} {b:List Int} (h:Src w B sp n cap b) (hb:Below B' w w') (hB:B≤B'):Src w' B sp n cap b :=
 ⟨h.len,h.byt,fun hn=>by
  obtain⟨bb,off,e,hlt,hc,hcell⟩:=h.cells hn;exact⟨bb,off,e,hlt,hc,fun j hj=>(hb.cell (p:=⟨bb,off+j,none⟩) (by show bb<B';omega)).trans (hcell j hj)⟩⟩
def qX (hb:Nat) (w:World) (l:List Int) (e:Ending) (w':World):Prop :=
 e=.returned (.tuple #[])∧(∃ st rest used len,HashIn w' hb st rest used len∧Has l st rest used len)∧Below hb w w'
theorem nL (st:St) (rest:List Int) (used:Nat) (len:Int) (k:Nat) (c:List Int) (h:rest.length=64) (hk:k+c.length≤64) :
 splice (cF st rest used len) (8+k) (c.map (Value.int .u8))=cF st (splice rest k c) used len:=by
 unfold splice cF;have h8:(st.list.map (Value.int .u32)).length=8:=by simp[St.list]
 rw[List.take_append,h8,List.take_of_length_le zo,Nat.add_sub_cancel_left,List.take_append_of_le_length (by simp;omega)];rw[List.drop_append,h8,List.drop_eq_nil_of_le zo,List.nil_append,List.length_map];rw[show 8+k+c.length-8=k+c.length by omega,List.drop_append_of_le_length (by simp;omega)];simp[List.map_take,List.map_drop]
theorem LL:Tryz.prog.arrayLen 184=64:=by kernel_rfl
theorem UB:Tryz.prog.underlying 184=some (.array (Tryz.prog.arrayLen 184) (Tryz.prog.elem 184)):=by kernel_rfl
theorem JQ (w:World):(sizeOf (Tryz.prog.elem 184)).run Tryz.prog w=.ok 1 w:=by kernel_rfl
theorem oH (hb used:Nat) (h:used<64) (w:World):(Instr.sliceAt 184 (.pointer (some ⟨hb,8,none⟩)) (some (.int .i64 used)) none none).run Tryz.prog w=.ok (.slice (some ⟨hb,8+used,none⟩) (64-used) (64-used)) w:=by
 rw[run_sliceAt_array_l w 184 _ UB .i64 used zo (by rw[LL];omega),JQ,LL];simp[slicedAt,Addr.add_mid,show 64≠used by omega]
theorem xU (hb:Nat) (w:World):(Instr.sliceAt 184 (.pointer (some ⟨hb,8,none⟩)) none none none).run Tryz.prog w=.ok (.slice (some ⟨hb,8,none⟩) 64 64) w:=by
 rw[run_sliceAt_array_all w 184 _ UB,JQ,LL];simp[slicedAt,Addr.add_mid]
theorem Tryz.info5b:(Tryz.prog.info? 5).map (·.size)=some 1:=by kernel_rfl
theorem AK (hb:Nat) (sp:Option Addr) (n cap:Nat) (b l:List Int) (st:St) (rest:List Int) (used:Nat) (w:World) (hh:HashIn w hb st rest used l.length) (ha:Has l st rest used l.length)
 (hs:Src w hb sp n cap b) (hbd:l.length+n≤1099511627776) (h0:0<used) (h1:used+n<64) :
 Calls Tryz.prog 159 #[.pointer (some ⟨hb,0,none⟩),.slice sp n cap] w (qX hb w (l++b)):=by
 obtain rfl:=hs.len;have c73:=hh.lenAt;have f73:=hh.free 73;have c72:=hh.usedAt;have HA:=zh ha;have HS:=zh hs;clear ha hs
 go_enter Tryz.func159,Tryz.ntmps159
 go_wp2_with fail;generalize hw1:World.setCell w _ _=w1;have hh1:HashIn w1 hb st rest used ((l.length:Int)+b.length):=by rw[←hw1];exact hh.stored 73 _ hh.rl (oU _ _ _ _ _ hh.rl)
 have hbe1:Below hb w w1:=by rw[←hw1];exact (Below.refl hb w).setCell (p:=⟨hb,73,none⟩) zl _
 have HS1:=zh (HS.out.below hbe1 zl);clear hw1 c73 f73 c72 HS;have c72:=hh1.usedAt;have hn:(b.map (Value.int .u8)).length=Nat.min b.length (64-used):=by rw[List.length_map,HS1.out.len];exact (Nat.min_eq_left zo).symm
 have HN:=zh hn;clear hn;have hsl:=oH hb used zo;have HB:=zh hh1.blk;have hpos:=HS1.out.pos;have HP:=zh hpos;clear hpos;have hfit:8+used+(b.map (Value.int .u8)).length≤(cF st rest used ((l.length:Int)+b.length)).length:=by rw[dH _ _ _ _ hh1.rl,List.length_map,HS1.out.len];omega
 have HF:=zh hfit;clear hfit
 go_region_law (refine step_copy_splice rfl (.tmp 27) (.tmp 28) 22 22 rfl 5 Tryz.underlying22 Tryz.info5b _ _ _ _ _ _ rfl rfl hb (8+used) _ 186 HB.out (b.map (Value.int .u8)) HN.out (fun h=>⟨rfl,HP.out h⟩) HF.out (jG _ _) hb w1 ((Below.refl _ _).drew) zl ?_;intro w2 hg2 hb2)
 have hh2:HashIn w2 hb st (splice rest used b) used ((l.length:Int)+b.length):=⟨by rw[hg2.out,nL _ _ _ _ _ _ hh1.rl (by rw[HS1.out.len];omega)],by rw[length_splice _ _ _ (by rw[HS1.out.len,hh1.rl];omega)];exact hh1.rl⟩;have hbe2:=hbe1.trans hb2;clear hg2 hb2 c72 hsl HB HP HF HN hbe1;have c72:=hh2.usedAt;have f72:=hh2.free 72
 go_wp2
 generalize hw3:World.setCell w2 _ _=w3;have hh3:HashIn w3 hb st (splice rest used b) (used+b.length) ((l.length:Int)+b.length):=by
  rw[←hw3];exact hh2.stored 72 (.int .i64 ((used+b.length:Nat):Int)) hh2.rl (jM _ _ _ _ _ hh2.rl)
 have hbe3:Below hb w w3:=by rw[←hw3];exact hbe2.setCell (p:=⟨hb,72,none⟩) zl _
 go_end0;exact⟨rfl,⟨_,_,_,_,hh3,HA.out.small b hh.rl h1 HS1.out.byt⟩,hbe3⟩
def YZ:Value→Nat | .slice _ n _=>n | _=>0
theorem HashIn.spliced {w w2:World} {hb:Nat} {st:St} {rest:List Int} {used:Nat} {len:Int} (h:HashIn w hb st rest used len) {k:Nat} {c:List Int} (hk:k+c.length≤64)
 (hg:Hid (w2.heap[hb]? = some (.cells (splice (cF st rest used len) (8+k) (c.map (Value.int .u8))).toArray 186 (0,0)))):HashIn w2 hb st (splice rest k c) used len :=
 ⟨by rw[hg.out,nL _ _ _ _ _ _ h.rl hk],by rw[length_splice _ _ _ (by rw[h.rl];exact hk)];exact h.rl⟩
theorem Src.posTake {w:World} {B:Nat} {sp:Option Addr} {n cap:Nat} {b:List Int} (h:Src w B sp n cap b) (m:Nat) (hp:0<((b.take m).map (Value.int .u8)).length):∃ ad,sp=some ad∧∀ j v,((b.take m).map (Value.int .u8))[j]? = some v→w.cell? (ad.add j)=some v:=by
 obtain⟨ad,e,hc⟩:=h.pos (by simp at hp ⊢;omega);refine⟨ad,e,fun j v hv=>hc j v ?_⟩;rw[List.map_take,List.getElem?_take] at hv
 split at hv
 ·exact hv
 ·cases hv
theorem Src.cut {w:World} {B bb off n cap:Nat} {b:List Int} (h:Src w B (some ⟨bb,off,none⟩) n cap b) (m:Nat) (hm:m≤n) :
 Src w B (if cap=m then some ⟨bb,off,none⟩ else some ⟨bb,off+m,none⟩) (n-m) (cap-m) (b.drop m):=by
 refine⟨by rw[List.length_drop,h.len],h.byt.drop m,fun hn=>?_⟩;obtain⟨b',o',e,hlt,hcap,hc⟩:=h.cells zo;injection e with e;injection e with e1 e2;subst e1 e2
 refine⟨bb,off+m,by rw[if_neg zo],hlt,by omega,fun j hj=>?_⟩;have:=hc (m+j) zo;rw[Nat.add_assoc,this];simp[List.getD_eq_getElem?_getD]
theorem FD (hb:Nat) (sp:Option Addr) (n cap:Nat) (b l:List Int) (st:St) (rest:List Int) (w:World) (hh:HashIn w hb st rest 0 l.length) (ha:Has l st rest 0 l.length)
 (hs:Src w hb sp n cap b) (hk:KayIn w) (hk0:4<hb) (hbd:l.length+n≤1099511627776) :
 Calls Tryz.prog 159 #[.pointer (some ⟨hb,0,none⟩),.slice sp n cap] w (qX hb w (l++b)):=by
 obtain rfl:=hs.len;have c73:=hh.lenAt;have f73:=hh.free 73;have c72:=hh.usedAt;have HA:=zh ha;have HS:=zh hs;have HK:=zh hk;clear ha hs hk
 go_enter Tryz.func159,Tryz.ntmps159
 go_wp2_with fail;generalize hw1:World.setCell w _ _=w1;have hh1:HashIn w1 hb st rest 0 ((l.length:Int)+b.length):=by rw[←hw1];exact hh.stored 73 _ hh.rl (oU _ _ _ _ _ hh.rl)
 have hbe1:Below hb w w1:=by rw[←hw1];exact (Below.refl hb w).setCell (p:=⟨hb,73,none⟩) zl _
 clear hw1 c73 f73 c72
 go_loopw [1] (fun v wr=>∃ (k n' cap':Nat) (ad:Option Addr) (st':St) (rest':List Int) (used':Nat),Hid (n'=b.length-k)∧v=.slice ad n' cap'∧Src w hb ad n' cap' (b.drop k)∧HashIn wr hb st' rest' used' ((l.length:Int)+b.length)∧Mid l b k st'∧Byt rest'∧Below hb w wr) (fun v _=>YZ v)
 case atStart=>exact⟨0,_,_,_,st,rest,0,rfl,rfl,HS.out,hh1,HA.out.mid0 b,HA.out.hbyt,hbe1⟩
 case round =>
  obtain⟨k,n',cap',ad,st',rest',used',hn',rfl,hsr,hhr,hmr,hbr,hber⟩:=hrel;clear hh1 hbe1;have hle:=hmr.le;by_cases hge:64≤n'
  ·obtain⟨bb,off,rfl,hlt,hcap,hcell⟩:=hsr.cells zo;have IG:=zh hcell;clear hcell;have hcut:=hsr.cut 64 hge;have HCUT:=zh hcut;clear hcut;have HNR:=zh hsr;clear hsr;have HMR:=zh hmr;clear hmr;go_wp2_with fail;refine (kS hb bb off cap' ((b.drop k).take 64) st' rest' used' _ wr zo ?_ ?_ ?_ ?_ zo hhr).mono ?_
   ·intro j hj;rw[hber.cell (p:=⟨bb,off+j,none⟩) hlt,IG.out j zo];simp[List.getD_eq_getElem?_getD,hj]
   ·exact Nat.lt_trans hlt hhr.lt
   ·exact ((HNR.out.byt).take 64).at_
   ·exact HK.out.below hber zo
   ·rintro e w' ⟨rfl,hh',hbe'⟩;have hh64:k+64≤b.length:=by have:=hn'.out;omega
    go_wp2
    go_roundw
    case rel =>
     refine⟨k+64,n'-64,cap'-64,_,_,rest',used',by show _=_;have:=hn'.out;omega,rfl,?_,hh',HMR.out.step hh64,hbr,hber.trans hbe'⟩;have:=HCUT.out;rw[List.drop_drop] at this;exact this
    case measure=>simp[YZ];omega
  ·have hd:(b.drop k).length=n':=hsr.len;have hn:((b.drop k).map (Value.int .u8)).length=Nat.min n' 64:=by rw[List.length_map,hd];exact (Nat.min_eq_left zo).symm
   have HN:=zh hn;clear hn;have hpos:=(hsr.below hber zl).pos;have HP:=zh hpos;clear hpos;have hfit:8+0+((b.drop k).map (Value.int .u8)).length≤(cF st' rest' used' ((l.length:Int)+b.length)).length:=by rw[dH _ _ _ _ hhr.rl,List.length_map,hd];omega
   have HF:=zh hfit;clear hfit;have HBK:=zh hhr.blk;have HD:=zh hd;clear hd;have HSR:=zh hsr;clear hsr;have HMR:=zh hmr;clear hmr
   go_wp2_with (refine wpList_copy_splice rfl (.tmp 65) (.tmp 66) 22 22 rfl 5 Tryz.underlying22 Tryz.info5b _ _ _ _ _ _ rfl rfl hb (8+0) _ 186 HBK.out ((b.drop k).map (Value.int .u8)) HN.out (fun h=>⟨rfl,HP.out h⟩) HF.out (jG _ _) hb wr (Below.refl _ _) zl ?_;intro w2 hg2 hb2;have hh2:=hhr.spliced (by rw[HD.out];omega) hg2;have c72:=hh2.usedAt;have f72:=hh2.free 72;clear hg2)
   generalize hw3:World.setCell w2 _ _=w3;have hh3:HashIn w3 hb st' (splice rest' 0 (b.drop k)) (b.length-k) ((l.length:Int)+b.length):=by
    rw[←hw3];exact hh2.stored 72 (.int .i64 ((b.length-k:Nat):Int)) hh2.rl (jM _ _ _ _ _ hh2.rl)
   have hbe3:Below hb w w3:=by rw[←hw3];exact (hber.trans hb2).setCell (p:=⟨hb,72,none⟩) zl _
   go_end0;exact⟨rfl,⟨_,_,_,_,hh3,HMR.out.fin (by have:=hn'.out;omega) hhr.rl hbr HS.out.byt⟩,hbe3⟩
theorem AL (hb:Nat) (sp:Option Addr) (n cap:Nat) (b l:List Int) (st:St) (rest:List Int) (used:Nat) (w:World) (hh:HashIn w hb st rest used l.length) (ha:Has l st rest used l.length)
 (hs:Src w hb sp n cap b) (hk:KayIn w) (hk0:4<hb) (hbd:l.length+n≤1099511627776) (h0:0<used) (h1:64≤used+n) (hu:used<64) :
 Calls Tryz.prog 159 #[.pointer (some ⟨hb,0,none⟩),.slice sp n cap] w (qX hb w (l++b)):=by
 obtain rfl:=hs.len;obtain⟨b0,o0,rfl,hlt0,hcap0,hcell0⟩:=hs.cells zo;clear hcell0;have c73:=hh.lenAt;have f73:=hh.free 73;have c72:=hh.usedAt;have HA:=zh ha;have HS:=zh hs;have HK:=zh hk;clear ha hs hk
 go_enter Tryz.func159,Tryz.ntmps159
 go_wp2_with fail;generalize hw1:World.setCell w _ _=w1;have hh1:HashIn w1 hb st rest used ((l.length:Int)+b.length):=by rw[←hw1];exact hh.stored 73 _ hh.rl (oU _ _ _ _ _ hh.rl)
 have hbe1:Below hb w w1:=by rw[←hw1];exact (Below.refl hb w).setCell (p:=⟨hb,73,none⟩) zl _
 have HS1:=zh (HS.out.below hbe1 zl);clear hw1 c73 f73 c72;have c72:=hh1.usedAt;obtain⟨m,hm⟩:∃ m,m=64-used:=⟨_,rfl⟩;have hm1:used+m≤64:=by omega
 have hm2:64≤used+m:=by omega
 clear hm;have hmb:m≤b.length:=by omega
 have hct:(b.take m).length=m:=by rw[List.length_take];omega
 have hn : ((b.take m).map (Value.int .u8)).length = Nat.min b.length (64 - used) := by rw [List.length_map, hct]; have : m = 64 - used := by omega
                                                                                        rw[this];exact (Nat.min_eq_right zo).symm
 have HN:=zh hn;clear hn;have hsl:=oH hb used hu;have hsa:=xU hb;have HB:=zh hh1.blk;have hpos:=HS1.out.posTake m;have HP:=zh hpos;clear hpos;have hfit:8+used+((b.take m).map (Value.int .u8)).length≤(cF st rest used ((l.length:Int)+b.length)).length:=by rw[dH _ _ _ _ hh1.rl,List.length_map,hct];omega
 have HF:=zh hfit;clear hfit;have hmid:Mid l b m (qV st (splice rest used (b.take m))):=by
  have e:m=64-used:=by omega
  rw[e];exact HA.out.mid1 b hh.rl h0 h1
 have HMID:=zh hmid;clear hmid;have hbyt3:Byt (splice rest used (b.take m)):=HA.out.hbyt.splice (HS.out.byt.take m) used;have OK:=zh hbyt3;clear hbyt3;have xD:=zh (HS.out.cut m hmb);obtain⟨c,hc⟩:∃ c,c=b.take m:=⟨_,rfl⟩;rw[←hc] at hct HN HP HF HMID OK;clear hc;have HCT:=zh hct;clear hct
 go_region_law (refine step_copy_splice rfl (.tmp 27) (.tmp 28) 22 22 rfl 5 Tryz.underlying22 Tryz.info5b _ _ _ _ _ _ rfl rfl hb (8+used) _ 186 HB.out (c.map (Value.int .u8)) HN.out (fun h=>⟨rfl,HP.out h⟩) HF.out (jG _ _) hb w1 ((Below.refl _ _).drew) zl ?_;intro w2 hg2 hb2)
 have hh2:=hh1.spliced (by rw[HCT.out];omega) hg2;have hbe2:=hbe1.trans hb2;clear hg2 hb2 c72 hsl HB HP HF HN hbe1;simp only[HCT.out];have c72:=hh2.usedAt;have f72:=hh2.free 72;go_wp2_with fail;generalize hw3:World.setCell w2 _ _=w3;have hh3:HashIn w3 hb st (splice rest used c) (used+m) ((l.length:Int)+b.length):=by
  rw[←hw3];exact hh2.stored 72 (.int .i64 ((used+m:Nat):Int)) hh2.rl (jM _ _ _ _ _ hh2.rl)
 have hbe3:Below hb w w3:=by rw[←hw3];exact hbe2.setCell (p:=⟨hb,72,none⟩) zl _
 clear hw3 hbe2 hh2 c72 f72;refine (kS hb hb 8 64 (splice rest used c) st (splice rest used c) (used+m) _ w3 zo ?_ hh3.lt OK.out.at_ (HK.out.below hbe3 zo) zo hh3).mono ?_
 ·exact fun j hj=>hh3.byte j hj
 rintro e w4 ⟨rfl,hh4,hb4⟩;have hbe4:=hbe3.trans hb4;clear hb4 hbe3 hh3;have hdec:decide ((used:Int)+m<64)=false:=by simp;omega
 go_wp2_with fail
 all_goals
  have hsrc4:=xD.out
  first
   | rw[if_neg zo] at hsrc4
   | rw[if_pos zo,show cap-m=0 by omega] at hsrc4
  go_loopw [1] (fun v wr=>∃ (k n' cap':Nat) (ad:Option Addr) (st':St) (rest':List Int) (used':Nat),Hid (n'=b.length-k)∧v=.slice ad n' cap'∧Src w hb ad n' cap' (b.drop k)∧HashIn wr hb st' rest' used' ((l.length:Int)+b.length)∧Mid l b k st'∧Byt rest'∧Below hb w wr) (fun v _=>YZ v)
  case atStart=>exact⟨m,_,_,_,_,_,_,rfl,rfl,hsrc4,hh4,HMID.out,OK.out,hbe4⟩
  case round =>
   obtain⟨k,n',cap',ad,st',rest',used',hn',rfl,hsr,hhr,hmr,hbr,hber⟩:=hrel;clear hh4 hbe4 hsrc4;have hle:=hmr.le;by_cases hge:64≤n'
   ·obtain⟨bb,off,rfl,hlt,hcap,hcell⟩:=hsr.cells zo;have IG:=zh hcell;clear hcell;have hcut:=hsr.cut 64 hge;have HCUT:=zh hcut;clear hcut;have HNR:=zh hsr;clear hsr;have HMR:=zh hmr;clear hmr;go_wp2_with fail;refine (kS hb bb off cap' ((b.drop k).take 64) st' rest' used' _ wr zo ?_ ?_ ?_ ?_ zo hhr).mono ?_
    ·intro j hj;rw[hber.cell (p:=⟨bb,off+j,none⟩) hlt,IG.out j zo];simp[List.getD_eq_getElem?_getD,hj]
    ·exact Nat.lt_trans hlt hhr.lt
    ·exact ((HNR.out.byt).take 64).at_
    ·exact HK.out.below hber zo
    ·rintro e w' ⟨rfl,hh',hbe'⟩;have hh64:k+64≤b.length:=by have:=hn'.out;omega
     by_cases hc64:cap'=64
     ·have hcut:=HCUT.out;rw[if_pos hc64,List.drop_drop] at hcut;have HC2:=zh hcut;clear hcut
      go_wp2
      go_roundw
      case rel=>exact⟨k+64,n'-64,cap'-64,some ⟨bb,off,none⟩,qV st' ((b.drop k).take 64),rest',used',by show _=_;have:=hn'.out;omega,by first | rfl | simp[hc64],HC2.out,hh',HMR.out.step hh64,hbr,hber.trans hbe'⟩
      case measure=>simp[YZ];omega
     ·have hcut:=HCUT.out;rw[if_neg hc64,List.drop_drop] at hcut;have HC2:=zh hcut;clear hcut
      go_wp2
      go_roundw
      case rel=>exact⟨k+64,n'-64,cap'-64,some ⟨bb,off+64,none⟩,qV st' ((b.drop k).take 64),rest',used',by show _=_;have:=hn'.out;omega,by first | rfl | simp[hc64],HC2.out,hh',HMR.out.step hh64,hbr,hber.trans hbe'⟩
      case measure=>simp[YZ];omega
   ·have hd:(b.drop k).length=n':=hsr.len;have hn:((b.drop k).map (Value.int .u8)).length=Nat.min n' 64:=by rw[List.length_map,hd];exact (Nat.min_eq_left zo).symm
    have HN:=zh hn;clear hn;have hpos:=(hsr.below hber zl).pos;have HP:=zh hpos;clear hpos;have hfit:8+0+((b.drop k).map (Value.int .u8)).length≤(cF st' rest' used' ((l.length:Int)+b.length)).length:=by rw[dH _ _ _ _ hhr.rl,List.length_map,hd];omega
    have HF:=zh hfit;clear hfit;have HBK:=zh hhr.blk;have HD:=zh hd;clear hd;have HSR:=zh hsr;clear hsr;have HMR:=zh hmr;clear hmr
    go_wp2_with (refine wpList_copy_splice rfl (.tmp 65) (.tmp 66) 22 22 rfl 5 Tryz.underlying22 Tryz.info5b _ _ _ _ _ _ rfl rfl hb (8+0) _ 186 HBK.out ((b.drop k).map (Value.int .u8)) HN.out (fun h=>⟨rfl,HP.out h⟩) HF.out (jG _ _) hb wr (Below.refl _ _) zl ?_;intro w2 hg2 hb2;have hh2:=hhr.spliced (by rw[HD.out];omega) hg2;have c72:=hh2.usedAt;have f72:=hh2.free 72;clear hg2)
    generalize hw3:World.setCell w2 _ _=w3;have hh3:HashIn w3 hb st' (splice rest' 0 (b.drop k)) (b.length-k) ((l.length:Int)+b.length):=by
     rw[←hw3];exact hh2.stored 72 (.int .i64 ((b.length-k:Nat):Int)) hh2.rl (jM _ _ _ _ _ hh2.rl)
    have hbe3:Below hb w w3:=by rw[←hw3];exact (hber.trans hb2).setCell (p:=⟨hb,72,none⟩) zl _
    go_end0;exact⟨rfl,⟨_,_,_,_,hh3,HMR.out.fin (by have:=hn'.out;omega) hhr.rl hbr HS.out.byt⟩,hbe3⟩
theorem IS (hb:Nat) (sp:Option Addr) (n cap:Nat) (b l:List Int) (st:St) (rest:List Int) (used:Nat) (len:Int) (w:World) (hh:HashIn w hb st rest used len) (ha:Has l st rest used len)
 (hs:Src w hb sp n cap b) (hk:KayIn w) (hk0:4<hb) (hbd:l.length+n≤1099511627776) :
 Calls Tryz.prog 159 #[.pointer (some ⟨hb,0,none⟩),.slice sp n cap] w (qX hb w (l++b)):=by
 obtain rfl:=ha.hlen;have hu:=ha.hused;by_cases h0:used=0
 ·subst h0;exact FD hb sp n cap b l st rest w hh ha hs hk hk0 hbd
 ·by_cases h1:used+n<64
  ·exact AK hb sp n cap b l st rest used w hh ha hs hbd zo h1
  ·exact AL hb sp n cap b l st rest used w hh ha hs hk hk0 hbd zo zo zo
theorem mU {P:Program} (w:World) (dT ty elem:TypeId) (hu:P.underlying dT=some (.slice elem)) (hz:∀ w,(zeroValue elem).run P w=.ok (.int .u8 0) w) (g off n c:Nat) (hn:0<n) (cur:List Value) (t:TypeId)
 (hg:w.heap[g]? = some (.cells cur.toArray t (0,0))) (hfit:off+n≤cur.length) :
 (Builtin.clear_ #[dT] ty #[.slice (some ⟨g,off,none⟩) n c]).run P w=.ok (.tuple #[]) (w.setRow g (splice cur off (List.replicate n (.int .u8 0))).toArray):=by
 have hzc:(Builtin.zeroCells (Value.int .u8 0).cells n).toList=List.replicate n (.int .u8 0):=by
  simp[Builtin.zeroCells,Value.cells];apply List.ext_getElem
  ·simp
  ·intro i h1 h2;simp[Nat.mod_one]
 have hst:=run_storeCells_at P g off t (List.replicate n (.int .u8 0)) 0 cur.toArray w hg (by simpa using hfit) (by intro v hv';rw[List.eq_of_mem_replicate hv'];rfl);obtain⟨m,rfl⟩:∃ m,n=m+1:=⟨n-1,by omega⟩;simp[Builtin.clear_,run_underlying hu,hz,hzc,hst,splice]
theorem lT {P:Program} (w:World) (dT ty elem:TypeId) (hu:P.underlying dT=some (.slice elem)) (a:Option Addr) (c:Nat) :
 (Builtin.clear_ #[dT] ty #[.slice a 0 c]).run P w=.ok (.tuple #[]) w:=by
 cases a <;> simp[Builtin.clear_,run_underlying hu]
theorem zN {w0 w:World} {g:Nat} (h:w0.grownBy w (some g)) (cs:Array Value):w0.grownBy (w.setRow g cs) (some g) :=
 ⟨h.os,h.tape,h.output,by simp;exact h.size,fun k hk hne=>(setRow_other w g k cs (fun e=>hne (by rw[e]))).trans (h.block k hk hne)⟩
theorem RowIn.grown {w w':World} {b g:Nat} {t:TypeId} {k:IntKind} {L:List Int} (h:RowIn w b t k L) (hg:w.grownBy w' (some g)) (hne:b≠g):RowIn w' b t k L:=by
 unfold RowIn;rw[hg.block b h.lt (fun e=>hne (by injection e))];exact h
theorem tJ {P:Program} {ops:Array Oper} {o:Oper} {a:Act} {w:World} {K:Act→World→Prop} {Q:Exit→Act→World→Prop} {E:Prop} (hgd:o.guard=none) (d:Operand) (dT:TypeId)
 (ho:o.op=.call { callee:=.builtin .clear,args:=#[d],argTypes:=#[dT] }) (elem:TypeId) (hu:P.underlying dT=some (.slice elem)) (hz:∀ w,(zeroValue elem).run P w=.ok (.int .u8 0) w)
 (dp:Option Addr) (n c:Nat) (hd:a.eval d=.slice dp n c)
 (g off:Nat) (cur:List Value) (t:TypeId) (hg:w.heap[g]? = some (.cells cur.toArray t (0,0)))
 (hpos:0<n→dp=some ⟨g,off,none⟩) (hfit:off+n≤cur.length) (w0:World) (hb:w0.grownBy w (some g))
 (h:∀ w',Hid (w'.heap[g]? = some (.cells (splice cur off (List.replicate n (.int .u8 0))).toArray t (0,0)))→w0.grownBy w' (some g)→K (a.put o.dst (.tuple #[])) w') :
 if Region.wanted o (yielded ops a.tmps)=true then Oper.wp P o a w K Q else E:=by
 have hw:Region.wanted o (yielded ops a.tmps)=true:=by simp[Region.wanted,hgd]
 rw[if_pos hw];by_cases h0:n=0
 ·subst h0;have hrun:=lT (P:=P) w dT o.type elem hu dp c;unfold Oper.wp;simp[execOp,ho,resolve,invoke,builtin,hd,hrun,Result.andThen];exact h w (show _=_ by simpa [splice] using hg) hb
 ·obtain rfl:=hpos zo;have hrun:=mU (P:=P) w dT o.type elem hu hz g off n c zo cur t hg hfit;unfold Oper.wp;simp[execOp,ho,resolve,invoke,builtin,hd,hrun,Result.andThen];exact h _ (show _=_ from setRow_heap w g _ _ t _ hg) (zN hb _)
theorem xG {P:Program} {w:World} {ops:Array Oper} {rest:List Oper} {o:Oper} {a:Act} {Q:Exit→Act→World→Prop} (hgd:o.guard=none) (d:Operand) (dT:TypeId)
 (ho:o.op=.call { callee:=.builtin .clear,args:=#[d],argTypes:=#[dT] }) (elem:TypeId) (hu:P.underlying dT=some (.slice elem)) (hz:∀ w,(zeroValue elem).run P w=.ok (.int .u8 0) w)
 (dp:Option Addr) (n c:Nat) (hd:a.eval d=.slice dp n c)
 (g off:Nat) (cur:List Value) (t:TypeId) (hg:w.heap[g]? = some (.cells cur.toArray t (0,0)))
 (hpos:0<n→dp=some ⟨g,off,none⟩) (hfit:off+n≤cur.length) (w0:World) (hb:w0.grownBy w (some g))
 (h:∀ w',Hid (w'.heap[g]? = some (.cells (splice cur off (List.replicate n (.int .u8 0))).toArray t (0,0)))→w0.grownBy w' (some g)→wpList P ops Q rest (a.put o.dst (.tuple #[])) w') :
 wpList P ops Q (o :: rest) a w:=by
 refine wpList_plain hgd fun K hK=>?_;by_cases h0:n=0
 ·subst h0;have hrun:=lT (P:=P) w dT o.type elem hu dp c;unfold Oper.wp;simp[execOp,ho,resolve,invoke,builtin,hd,hrun,Result.andThen];exact hK _ _ (h w (show _=_ by simpa [splice] using hg) hb)
 ·obtain rfl:=hpos zo;have hrun:=mU (P:=P) w dT o.type elem hu hz g off n c zo cur t hg hfit;unfold Oper.wp;simp[execOp,ho,resolve,invoke,builtin,hd,hrun,Result.andThen];exact hK _ _ (h _ (show _=_ from setRow_heap w g _ _ t _ hg) (zN hb _))
theorem Tryz.zero5b (w:World):(zeroValue 5).run Tryz.prog w=.ok (.int .u8 0) w:=by kernel_rfl
end Go.Proofs.YtaeobegaodhpcaaGreatDoor
namespace Go.Proofs.YtaeobegaodhpcaaGreatDoor
open Go
def lb (m:Int) (i:Nat):Int:=m / 2 ^ (8*i) % 256
def tX (m:Int):List Int:=[lb m 7,lb m 6,lb m 5,lb m 4,lb m 3,lb m 2,lb m 1,lb m 0]
theorem LN (m:Int) (i:Nat):0≤lb m i∧lb m i<256:=by unfold lb;omega
theorem QI (m:Int):Byt (tX m):=fun x hx=>by
 simp only[tX,List.mem_cons,List.not_mem_nil,or_false] at hx;rcases hx with rfl | rfl | rfl | rfl | rfl | rfl | rfl | rfl <;> exact LN _ _
def pad (l:List Int):List Int:=l++(128 :: (List.replicate ((119-l.length % 64) % 64) 0++tX (8*(l.length:Int))))
theorem lC (l:List Int):(pad l).length=l.length+9+(119-l.length % 64) % 64:=by simp[pad,tX];omega
def sha (l:List Int):St:=sM ((pad l).length / 64) iv (pad l)
def lS (r:List Int) (m:Int):Nat→List Int
 | 0=>r
 | i+1=>(lS r m i).set (63-i) (lb m i)
theorem tM (r:List Int) (m:Int) (n:Nat) (h:Byt r):Byt (lS r m n):=by
 induction n with
 | zero=>exact h
 | succ n ih=>exact ih.set _ _ (LN _ _).1 (LN _ _).2
theorem PH (a b:List Int) (i:Nat) (v:Int) (h:a.length=56) (hi:56≤i):(a++b).set i v=a++b.set (i-56) v:=by
 rw[List.set_append_right _ _ zo,h]
theorem pK (r:List Int) (m:Int) (h:r.length=64):lS r m 8=r.take 56++tX m:=by
 obtain⟨t,ht⟩:∃ t,t=r.drop 56:=⟨_,rfl⟩;have hl:t.length=8:=by rw[ht,List.length_drop];omega
 have e:r=r.take 56++t:=by rw[ht,List.take_append_drop]
 have hk:(r.take 56).length=56:=by rw[List.length_take];omega
 rw[e];generalize r.take 56=k at *;rw[show (k++t).take 56=k by rw[List.take_append_of_le_length zo,List.take_of_length_le zo]]
 match t,hl with
 | [_,_,_,_,_,_,_,_],_=>simp[lS,PH _ _ _ _ hk,tX]
theorem yW (rest:List Int) (u:Nat) (hr:rest.length=64) (hu:u<64) :
 splice (rest.set u 128) (u+1) (List.replicate (63-u) 0)=rest.take u++(128 :: List.replicate (63-u) 0):=by
 unfold splice;have h1:(rest.set u 128).take (u+1)=rest.take u++[128]:=by
  rw[List.take_succ_eq_append_getElem (by rw[List.length_set];omega)];simp[List.take_set];exact List.set_eq_of_length_le (by rw[List.length_take];omega)
 rw[h1,List.drop_eq_nil_of_le (by simp;omega),List.append_nil,List.append_assoc,List.singleton_append]
theorem UJ {l:List Int} {st:St} {rest:List Int} {used:Nat} {len:Int} (h:Has l st rest used len) (hr:rest.length=64) (hu:used<56) :
 qV st (lS (rest.take used++(128 :: List.replicate (63-used) 0)) (8*len) 8)=sha l:=by
 have e:=h.hused;rw[pK _ _ (by simp;omega),h.htail,h.hlen];have hd:(l.drop (64*(l.length / 64))).length=used:=by rw[List.length_drop];omega
 have e2:(l.drop (64*(l.length / 64))++(128 :: List.replicate (63-used) 0)).take 56=l.drop (64*(l.length / 64))++(128 :: List.replicate (55-used) 0):=by
  rw[List.take_append,hd,List.take_of_length_le zo];obtain⟨n,hn⟩:∃ n,56-used=n+1:=⟨55-used,by omega⟩;rw[hn,List.take_succ_cons,List.take_replicate,show min n (63-used)=55-used by omega]
 rw[e2];unfold sha;have hp:=lC l;have hz:(119-l.length % 64) % 64=55-used:=by omega
 have hM:(pad l).length / 64=l.length / 64+1:=by rw[hp,hz];omega
 rw[hM,iX];unfold pad;rw[fA _ _ _ _ zo,←h.hst,hz,List.drop_append_of_le_length zo];congr 1;rw[List.take_of_length_le (by simp[tX];omega)];simp
theorem UI {l:List Int} {st:St} {rest:List Int} {used:Nat} {len:Int} (h:Has l st rest used len) (hu:56≤used) :
 qV (qV st (rest.take used++(128 :: List.replicate (63-used) 0))) (lS (List.replicate 64 0) (8*len) 8)=sha l:=by
 have e:=h.hused;rw[pK _ _ (by simp),h.htail,h.hlen];have hd:(l.drop (64*(l.length / 64))).length=used:=by rw[List.length_drop];omega
 unfold sha;have hp:=lC l;have hz:(119-l.length % 64) % 64=(63-used)+56:=by omega
 have hM:(pad l).length / 64=l.length / 64+1+1:=by rw[hp,hz];omega
 have hpad:pad l=(l++(128 :: List.replicate (63-used) 0))++(List.replicate 56 0++tX (8*(l.length:Int))):=by
  unfold pad;rw[hz,←List.replicate_append_replicate];simp
 rw[hM,hpad];have hlen1:(l++(128 :: List.replicate (63-used) 0)).length=64*(l.length / 64+1):=by simp;omega
 rw[iX,fA _ _ _ _ zo,iX,fA _ _ _ _ zo,←h.hst];have hx:((l++(128 :: List.replicate (63-used) 0)).drop (64*(l.length / 64))).take 64=l.drop (64*(l.length / 64))++(128 :: List.replicate (63-used) 0):=by
  rw[List.drop_append_of_le_length zo,List.take_of_length_le (by simp;omega)]
 rw[hx,←hlen1,List.drop_left,List.take_of_length_le (l:=List.replicate 56 0++tX (8*(l.length:Int))) (by simp[tX])];rw[List.take_replicate,show min 56 64=56 from rfl]
end Go.Proofs.YtaeobegaodhpcaaGreatDoor
