/-
  Blocks that a call has made, as a list: what stands in each, through calls, new blocks and stores; in any order. It names no program's function.
-/
import Derived.Test.YtaeobegaodhpcaaGreatDoorZip
import Derived.Test.YtaeobegaodhpcaaGreatDoorProg
import Derived.WalkKit
import Derived.Below
import Derived.Laws.CopyOwn
import Derived.Deep.MidRow
import Derived.Laws.AppendOwn
import Derived.OwnWalk
import GoSem.Claim
import Derived.WalkSpells
import Derived.WalkLawsBesides
import Derived.BigRegion
import Derived.Deep.QuietTactic
import Derived.BigQuiet
import Derived.Lib.Hide
set_option maxRecDepth 100000
set_option maxHeartbeats 8000000
namespace Go.Proofs.YtaeobegaodhpcaaGreatDoor
open Go.RowKit
structure Blks (B:Nat) (w0 w:World) (l:List (Nat × Obj)):Prop where
 b:Below B w0 w
 k:B≤w.heap.size
 h:∀ p ∈ l,B≤p.1∧p.1<w.heap.size∧w.heap[p.1]? = some p.2
 nd:(l.map Prod.fst).Nodup
theorem Blks.start {B:Nat} {w0 w:World} (h:Below B w0 w) (hk:B≤w.heap.size):Blks B w0 w []:=⟨h,hk,by simp,by simp⟩
theorem Blks.drew {B:Nat} {w0 w:World} {l:List (Nat × Obj)} (h:Blks B w0 w l):Blks B w0 w.drew l:=⟨h.b.drew,h.k,h.h,h.nd⟩
theorem Blks.call {B:Nat} {w0 w w':World} {l:List (Nat × Obj)} (h:Blks B w0 w l) (hb:Below w.heap.size w w'):Blks B w0 w' l :=
 ⟨h.b.trans (hb.mono h.k),Nat.le_trans h.k hb.size,fun p hp=>⟨(h.h p hp).1,Nat.lt_of_lt_of_le (h.h p hp).2.1 hb.size,(hb.block _ (h.h p hp).2.1).trans (h.h p hp).2.2⟩,h.nd⟩
theorem Blks.alloc {B:Nat} {w0 w:World} {l:List (Nat × Obj)} (h:Blks B w0 w l) (o:Obj):Blks B w0 (w.alloc o) ((w.heap.size,o) :: l) :=
 ⟨h.b.alloc h.k o,by simp;exact Nat.le_succ_of_le h.k,fun p hp=>by
  rcases List.mem_cons.1 hp with rfl | hp
  ·exact⟨h.k,by simp,heap_alloc_new w o⟩
  ·exact⟨(h.h p hp).1,by simp;exact Nat.lt_succ_of_lt (h.h p hp).2.1,(heap_alloc_old w o (h.h p hp).2.1).trans (h.h p hp).2.2⟩,by
  rw[List.map_cons,List.nodup_cons];refine⟨fun hm=>?_,h.nd⟩;obtain⟨p,hp,e⟩:=List.mem_map.1 hm;have:=(h.h p hp).2.1;omega⟩
theorem Blks.at {B:Nat} {w0 w:World} {l:List (Nat × Obj)} (h:Blks B w0 w l) (i:Nat) {g:Nat} {o:Obj} (hi:l[i]? = some (g,o)):w.heap[g]? = some o:=(h.h (g,o) (List.mem_of_getElem? hi)).2.2
theorem Blks.lt {B:Nat} {w0 w:World} {l:List (Nat × Obj)} (h:Blks B w0 w l) (i:Nat) {g:Nat} {o:Obj} (hi:l[i]? = some (g,o)):B≤g∧g<w.heap.size:=⟨(h.h (g,o) (List.mem_of_getElem? hi)).1,(h.h (g,o) (List.mem_of_getElem? hi)).2.1⟩
theorem Blks.ne {B:Nat} {w0 w:World} {l:List (Nat × Obj)} (h:Blks B w0 w l) (i j:Nat) {g g':Nat} {o o':Obj} (hi:l[i]? = some (g,o)) (hj:l[j]? = some (g',o')) (hij:i≠j):g≠g':=fun e=>by
 obtain⟨h1,e1⟩:=List.getElem?_eq_some_iff.1 hi;obtain⟨h2,e2⟩:=List.getElem?_eq_some_iff.1 hj;refine hij ((List.getElem_inj (i:=i) (j:=j) (h₀:=by simpa using h1) (h₁:=by simpa using h2) h.nd).1 ?_);rw[List.getElem_map,List.getElem_map,e1,e2];exact e
theorem Blks.set {B:Nat} {w0 w:World} {l:List (Nat × Obj)} (h:Blks B w0 w l) (i:Nat) {g:Nat} {cs:Array Value} {t:TypeId} (hi:l[i]? = some (g,.cells cs t (0,0))) (ds:Array Value) :
 Blks B w0 (w.setRow g ds) (l.set i (g,.cells ds t (0,0))):=by
 have hm:=h.h _ (List.mem_of_getElem? hi);have hnew:(w.setRow g ds).heap[g]? = some (.cells ds t (0,0)):=setRow_heap _ _ _ _ _ _ hm.2.2;have hsz:(w.setRow g ds).heap.size=w.heap.size:=by simp[World.setRow]
 refine⟨below_setRow h.b hm.1 _,by rw[hsz];exact h.k,fun p hp=>?_,?_⟩
 ·obtain⟨j,hj,e⟩:=List.getElem_of_mem hp;rw[List.length_set] at hj;rw[List.getElem_set] at e
  split at e
  ·subst e;exact⟨hm.1,by rw[hsz];exact hm.2.1,hnew⟩
  ·next hne =>
   have hq:=h.h p (by rw[←e];exact List.getElem_mem _);have hpg:p.1≠g:=fun e1=>by
    have:=h.ne j i (g:=p.1) (o:=p.2) (by rw[List.getElem?_eq_getElem hj,e]) hi (fun e2=>hne e2.symm);exact this e1
   exact⟨hq.1,by rw[hsz];exact hq.2.1,(setRow_other _ _ _ _ hpg).trans hq.2.2⟩
 ·rw[List.map_set];obtain⟨h1,e1⟩:=List.getElem?_eq_some_iff.1 hi;have:(l.map Prod.fst).set i g=l.map Prod.fst:=by
   apply List.ext_getElem
   ·simp
   ·intro j h2 h3;rw[List.getElem_set]
    split
    ·next e=>subst e;rw[List.getElem_map,e1]
    ·rfl
  rw[this];exact h.nd
theorem Blks.allocd {B:Nat} {w0 w:World} {l:List (Nat × Obj)} (h:Blks B w0 w l) (o:Obj):∃ g1 w1,w.heap.size=g1∧w.alloc o=w1∧Hid (Blks B w0 w1 ((g1,o) :: l))∧Hid (Below w.heap.size w w1):=⟨_,_,rfl,rfl,h.alloc o,(Below.refl _ _).alloc zl o⟩
theorem Blks.allocdD {B:Nat} {w0 w:World} {l:List (Nat × Obj)} (h:Blks B w0 w l) (o:Obj):∃ g1 w1,w.heap.size=g1∧(w.alloc o).drew=w1∧Hid (Blks B w0 w1 ((g1,o) :: l))∧Hid (Below w.heap.size w w1):=⟨_,_,rfl,rfl,(h.alloc o).drew,((Below.refl _ _).alloc zl o).drew⟩
theorem dI {w a b:World} {g:Nat} (h:w.grownBy a (some g)) (hb:Below w.heap.size a b):w.grownBy b (some g) :=
 ⟨hb.os.trans h.os,hb.tape.trans h.tape,hb.output.trans h.output,Nat.le_trans h.size hb.size,fun k hk hne=>(hb.block k hk).trans (h.block k hk hne)⟩
theorem cV {w a:World} {g B:Nat} (h:w.grownBy a (some g)) (hB:B≤g) (hs:B≤w.heap.size):Below B w a :=
 ⟨h.os,h.tape,h.output,h.size,fun k hk=>h.block k zo (fun e=>by injection e with e;omega)⟩
theorem oV (w:World) (g:Nat):w.grownBy w (some g):=World.grownBy.refl _ _
theorem BJ {w:World} {b1 b2 e1 e2 s1 s2 n1 n2:Nat} {v1 v2:Value} {x1 x2:List Value} (h1:w.ownsRow b1 e1 s1 v1 n1 x1) (h2:w.ownsRow b2 e2 s2 v2 n2 x2) (hne:e1≠e2):v1.ownBlock=none∨v1.ownBlock≠v2.ownBlock:=by
 obtain⟨_,⟨rfl,_⟩ | ⟨g,cap,cur,rfl,_,hg,_⟩⟩:=h1
 ·exact .inl rfl
 ·obtain⟨_,⟨rfl,_⟩ | ⟨g',cap',cur',rfl,_,hg',_⟩⟩:=h2
  ·exact .inr (by simp[Value.ownBlock])
  ·refine .inr fun e=>?_;have e':g=g':=by simpa [Value.ownBlock] using e
   subst e';rw[hg] at hg';injection hg' with hg';injection hg' with _ h _
   exact hne h
theorem cN {w:World} {b e s n:Nat} {v:Value} {x:List Value} (h:w.ownsRow b e s v n x) {g:Nat} {cs:Array Value} {t:TypeId} {fr:Nat × Nat} (hg:w.heap[g]? = some (.cells cs t fr)) (ht:t≠e):v.ownBlock=none∨v.ownBlock≠some g:=by
 obtain⟨_,⟨rfl,_⟩ | ⟨g1,c,u,rfl,_,hg1,_⟩⟩:=h
 ·exact .inl rfl
 ·refine .inr fun e=>?_;injection e with e
  subst e;rw[hg1] at hg;injection hg with hg
  injection hg with _ h2 _
  exact ht h2.symm
theorem zT {p q:Prop} (h:p→q) (hp:p):q:=h hp
theorem Blks.p2 {B:Nat} {w0 w:World} {a b:Nat × Obj} {l:List (Nat × Obj)} (h:Blks B w0 w (a :: b :: l)):Blks B w0 w (b :: a :: l) :=
 ⟨h.b,h.k,fun p hp=>h.h p (by
  rcases List.mem_cons.1 hp with rfl | hp
  ·exact List.mem_cons_of_mem _ List.mem_cons_self
  ·rcases List.mem_cons.1 hp with rfl | hp
   ·exact List.mem_cons_self
   ·exact List.mem_cons_of_mem _ (List.mem_cons_of_mem _ hp)),by
  have hn:=h.nd;simp only[List.map_cons,List.nodup_cons,List.mem_cons,not_or] at hn ⊢;exact⟨⟨fun e=>hn.1.1 e.symm,hn.2.1⟩,hn.1.2,hn.2.2⟩⟩
end Go.Proofs.YtaeobegaodhpcaaGreatDoor
namespace Go.Proofs.YtaeobegaodhpcaaGreatDoor
open Go
def rot (a b x:Int):Int:=bits .or .u32 (x / a) (x*b % 4294967296)
def xr (a b:Int):Int:=bits .xor .u32 a b
def an (a b:Int):Int:=bits .and .u32 a b
def ad (a b:Int):Int:=(a+b) % 4294967296
def chs (x y z:Int):Int:=xr (an x y) (an (xr IntKind.u32.max x) z)
def mjr (x y z:Int):Int:=xr (xr (an x y) (an x z)) (an y z)
def big0 (x:Int):Int:=xr (xr (rot 4 1073741824 x) (rot 8192 524288 x)) (rot 4194304 1024 x)
def big1 (x:Int):Int:=xr (xr (rot 64 67108864 x) (rot 2048 2097152 x)) (rot 33554432 128 x)
def sm0 (x:Int):Int:=xr (xr (rot 128 33554432 x) (rot 262144 16384 x)) (x / 8)
def sm1 (x:Int):Int:=xr (xr (rot 131072 32768 x) (rot 524288 8192 x)) (x / 1024)
structure St where
 a:Int
 b:Int
 c:Int
 d:Int
 e:Int
 f:Int
 g:Int
 h:Int
def St.list (s:St):List Int:=[s.a,s.b,s.c,s.d,s.e,s.f,s.g,s.h]
theorem St.list_length (s:St):s.list.length=8:=rfl
def tOne (k w:Int) (s:St):Int:=ad (ad (ad (ad s.h (big1 s.e)) (chs s.e s.f s.g)) k) w
def tTwo (s:St):Int:=ad (big0 s.a) (mjr s.a s.b s.c)
def rnd (k w:Int) (s:St):St:=⟨ad (tOne k w s) (tTwo s),s.a,s.b,s.c,ad s.d (tOne k w s),s.e,s.f,s.g⟩
def kay:List Int:=[1116352408,1899447441,3049323471,3921009573,961987163,1508970993,2453635748,2870763221,3624381080,310598401,607225278,1426881987,1925078388,2162078206,2614888103,3248222580,3835390401,4022224774,264347078,604807628,770255983,1249150122,1555081692,1996064986,2554220882,2821834349,2952996808,3210313671,3336571891,3584528711,113926993,338241895,666307205,773529912,1294757372,1396182291,1695183700,1986661051,2177026350,2456956037,2730485921,2820302411,3259730800,3345764771,3516065817,3600352804,4094571909,275423344,430227734,506948616,659060556,883997877,958139571,1322822218,1537002063,1747873779,1955562222,2024104815,2227730452,2361852424,2428436474,2756734187,3204031479,3329325298]
theorem lD:kay.length=64:=rfl
def PN (W:List Int) (s:St):Nat→St
 | 0=>s
 | n+1=>rnd (kay.getD n 0) (W.getD n 0) (PN W s n)
def wd (p:List Int) (i:Nat):Int :=
 bits .or .u32 (bits .or .u32 (bits .or .u32 (p.getD (4*i) 0*16777216) (p.getD (4*i+1) 0*65536)) (p.getD (4*i+2) 0*256)) (p.getD (4*i+3) 0)
def msg (p:List Int) (n:Nat):List Int:=(List.range n).map (wd p)
theorem bP (p:List Int) (n:Nat):(msg p n).length=n:=by simp[msg]
theorem DO (p:List Int) (n:Nat):msg p (n+1)=msg p n++[wd p n]:=by simp[msg,List.range_succ]
def AN (l:List Int) (n:Nat):Int:=ad (ad (ad (l.getD n 0) (sm0 (l.getD (n+1) 0))) (l.getD (n+9) 0)) (sm1 (l.getD (n+14) 0))
def cW (m:List Int):Nat→List Int
 | 0=>m
 | n+1=>cW m n++[AN (cW m n) n]
theorem bZ (m:List Int) (n:Nat):(cW m n).length=m.length+n:=by
 induction n with
 | zero=>rfl
 | succ n ih=>simp[cW,ih];omega
def iM (p:List Int):List Int:=cW (msg p 16) 48
theorem gQ (p:List Int):(iM p).length=64:=by simp[iM,bZ,bP]
def qV (h:St) (p:List Int):St :=
 let s:=PN (iM p) h 64
 ⟨ad h.a s.a,ad h.b s.b,ad h.c s.c,ad h.d s.d,ad h.e s.e,ad h.f s.f,ad h.g s.g,ad h.h s.h⟩
def iv:St:=⟨1779033703,3144134277,1013904242,2773480762,1359893119,2600822924,528734635,1541459225⟩
def sM:Nat→St→List Int→St
 | 0,s,_=>s
 | n+1,s,p=>sM n (qV s (p.take 64)) (p.drop 64)
def aQ (n:Nat) (l:List Int):List Int:=l++List.replicate (n-l.length) 0
theorem cI (n:Nat) (l:List Int) (h:l.length≤n):(aQ n l).length=n:=by simp[aQ];omega
theorem gJ (n:Nat) (l:List Int) (h:l.length=n):aQ n l=l:=by simp[aQ,h]
theorem dU (n:Nat) (l:List Int) (i:Nat) (h:i<l.length):(aQ n l).getD i 0=l.getD i 0:=by
 simp[aQ,List.getD_eq_getElem?_getD,List.getElem?_append_left h]
theorem eO (n:Nat) (l:List Int) (v:Int) (h:l.length<n):(aQ n l).set l.length v=aQ n (l++[v]):=by
 unfold aQ;rw[List.set_append_right _ _ zl];obtain⟨m,hm⟩:∃ m,n-l.length=m+1:=⟨n-l.length-1,by omega⟩;have h2:n-(l++[v]).length=m:=by simp;omega
 rw[hm,h2,Nat.sub_self,List.replicate_succ,List.set_cons_zero];simp
end Go.Proofs.YtaeobegaodhpcaaGreatDoor
namespace Go.Proofs.YtaeobegaodhpcaaGreatDoor
open Go.RowKit
theorem eH (a b:Int):bits .or .u32 a b=bits .or .u32 b a:=by
 show IntKind.u32.wrap ((BitVec.ofInt 32 a ||| BitVec.ofInt 32 b).toNat:Int)=IntKind.u32.wrap ((BitVec.ofInt 32 b ||| BitVec.ofInt 32 a).toNat:Int);rw[BitVec.or_comm]
theorem iC {a b:Int} (h:a=b):Ending.returned (.int .u32 a)=.returned (.int .u32 b):=by rw[h]
theorem ZJ (x:Int) (w:World) :
 Calls Tryz.prog 183 #[.int .u32 x,.int .i64 (-2)] w fun e w'=>e=.returned (.int .u32 (rot 4 1073741824 x))∧w=w':=by
 have e:bits BinOp.and IntKind.u64 (IntKind.u64.wrap (-2)) 31=30:=by decide +kernel
 go_enter Tryz.func183,Tryz.ntmps183
 go_wp2
 go_ret;exact⟨iC (eH _ _),rfl⟩
theorem ZI (x:Int) (w:World) :
 Calls Tryz.prog 183 #[.int .u32 x,.int .i64 (-6)] w fun e w'=>e=.returned (.int .u32 (rot 64 67108864 x))∧w=w':=by
 have e:bits BinOp.and IntKind.u64 (IntKind.u64.wrap (-6)) 31=26:=by decide +kernel
 go_enter Tryz.func183,Tryz.ntmps183
 go_wp2
 go_ret;exact⟨iC (eH _ _),rfl⟩
theorem ZH (x:Int) (w:World) :
 Calls Tryz.prog 183 #[.int .u32 x,.int .i64 (-7)] w fun e w'=>e=.returned (.int .u32 (rot 128 33554432 x))∧w=w':=by
 have e:bits BinOp.and IntKind.u64 (IntKind.u64.wrap (-7)) 31=25:=by decide +kernel
 go_enter Tryz.func183,Tryz.ntmps183
 go_wp2
 go_ret;exact⟨iC (eH _ _),rfl⟩
theorem UX (x:Int) (w:World) :
 Calls Tryz.prog 183 #[.int .u32 x,.int .i64 (-11)] w fun e w'=>e=.returned (.int .u32 (rot 2048 2097152 x))∧w=w':=by
 have e:bits BinOp.and IntKind.u64 (IntKind.u64.wrap (-11)) 31=21:=by decide +kernel
 go_enter Tryz.func183,Tryz.ntmps183
 go_wp2
 go_ret;exact⟨iC (eH _ _),rfl⟩
theorem UW (x:Int) (w:World) :
 Calls Tryz.prog 183 #[.int .u32 x,.int .i64 (-13)] w fun e w'=>e=.returned (.int .u32 (rot 8192 524288 x))∧w=w':=by
 have e:bits BinOp.and IntKind.u64 (IntKind.u64.wrap (-13)) 31=19:=by decide +kernel
 go_enter Tryz.func183,Tryz.ntmps183
 go_wp2
 go_ret;exact⟨iC (eH _ _),rfl⟩
theorem UV (x:Int) (w:World) :
 Calls Tryz.prog 183 #[.int .u32 x,.int .i64 (-17)] w fun e w'=>e=.returned (.int .u32 (rot 131072 32768 x))∧w=w':=by
 have e:bits BinOp.and IntKind.u64 (IntKind.u64.wrap (-17)) 31=15:=by decide +kernel
 go_enter Tryz.func183,Tryz.ntmps183
 go_wp2
 go_ret;exact⟨iC (eH _ _),rfl⟩
theorem UU (x:Int) (w:World) :
 Calls Tryz.prog 183 #[.int .u32 x,.int .i64 (-18)] w fun e w'=>e=.returned (.int .u32 (rot 262144 16384 x))∧w=w':=by
 have e:bits BinOp.and IntKind.u64 (IntKind.u64.wrap (-18)) 31=14:=by decide +kernel
 go_enter Tryz.func183,Tryz.ntmps183
 go_wp2
 go_ret;exact⟨iC (eH _ _),rfl⟩
theorem UT (x:Int) (w:World) :
 Calls Tryz.prog 183 #[.int .u32 x,.int .i64 (-19)] w fun e w'=>e=.returned (.int .u32 (rot 524288 8192 x))∧w=w':=by
 have e:bits BinOp.and IntKind.u64 (IntKind.u64.wrap (-19)) 31=13:=by decide +kernel
 go_enter Tryz.func183,Tryz.ntmps183
 go_wp2
 go_ret;exact⟨iC (eH _ _),rfl⟩
theorem US (x:Int) (w:World) :
 Calls Tryz.prog 183 #[.int .u32 x,.int .i64 (-22)] w fun e w'=>e=.returned (.int .u32 (rot 4194304 1024 x))∧w=w':=by
 have e:bits BinOp.and IntKind.u64 (IntKind.u64.wrap (-22)) 31=10:=by decide +kernel
 go_enter Tryz.func183,Tryz.ntmps183
 go_wp2
 go_ret;exact⟨iC (eH _ _),rfl⟩
theorem UR (x:Int) (w:World) :
 Calls Tryz.prog 183 #[.int .u32 x,.int .i64 (-25)] w fun e w'=>e=.returned (.int .u32 (rot 33554432 128 x))∧w=w':=by
 have e:bits BinOp.and IntKind.u64 (IntKind.u64.wrap (-25)) 31=7:=by decide +kernel
 go_enter Tryz.func183,Tryz.ntmps183
 go_wp2
 go_ret;exact⟨iC (eH _ _),rfl⟩
theorem QA (x:Int) (w:World) :
 Calls Tryz.prog 180 #[.int .u32 x,.int .i64 6,.int .i64 11,.int .i64 25] w fun e w'=>e=.returned (.int .u32 (big1 x))∧w=w':=by
 go_enter Tryz.func180,Tryz.ntmps180
 go_wp2_with (first | (go_at_call 183;(with_reducible refine (ZI _ _).mono ?_);rintro e w' ⟨rfl,rfl⟩) | (go_at_call 183;(with_reducible refine (UX _ _).mono ?_);rintro e w' ⟨rfl,rfl⟩) | (go_at_call 183;(with_reducible refine (UR _ _).mono ?_);rintro e w' ⟨rfl,rfl⟩))
 go_ret;exact⟨rfl,rfl⟩
theorem QB (x:Int) (w:World) :
 Calls Tryz.prog 180 #[.int .u32 x,.int .i64 2,.int .i64 13,.int .i64 22] w fun e w'=>e=.returned (.int .u32 (big0 x))∧w=w':=by
 go_enter Tryz.func180,Tryz.ntmps180
 go_wp2_with (first | (go_at_call 183;(with_reducible refine (ZJ _ _).mono ?_);rintro e w' ⟨rfl,rfl⟩) | (go_at_call 183;(with_reducible refine (UW _ _).mono ?_);rintro e w' ⟨rfl,rfl⟩) | (go_at_call 183;(with_reducible refine (US _ _).mono ?_);rintro e w' ⟨rfl,rfl⟩))
 go_ret;exact⟨rfl,rfl⟩
theorem GZ (x y z:Int) (w:World) :
 Calls Tryz.prog 181 #[.int .u32 x,.int .u32 y,.int .u32 z] w fun e w'=>e=.returned (.int .u32 (chs x y z))∧w=w':=by
 go_enter Tryz.func181,Tryz.ntmps181
 go_wp2
 go_ret;exact⟨rfl,rfl⟩
theorem yX (x y z:Int) (w:World) :
 Calls Tryz.prog 182 #[.int .u32 x,.int .u32 y,.int .u32 z] w fun e w'=>e=.returned (.int .u32 (mjr x y z))∧w=w':=by
 go_enter Tryz.func182,Tryz.ntmps182
 go_wp2
 go_ret;exact⟨rfl,rfl⟩
theorem gI {w:World} {g j:Nat} {L:List Value} {t:TypeId} {fr:Nat × Nat} {v:Value} (hg:w.heap[g]? = some (.cells L.toArray t fr)) (hv:L[j]? = some v):w.cell? ⟨g,j,none⟩=some v:=by
 rw[cell_of_row w g j _ t fr hg];simpa using hv
theorem fV {α β:Type} (l:List α) (f:α→β) (i:Nat) (d:α) (h:i<l.length):(l.map f)[i]? = some (f (l.getD i d)):=by
 simp[List.getD_eq_getElem?_getD,List.getElem?_eq_getElem h]
def RowIn (w:World) (b:Nat) (t:TypeId) (k:IntKind) (L:List Int):Prop:=w.heap[b]? = some (.cells (L.map (Value.int k)).toArray t (0,0))
theorem RowIn.get {w:World} {b:Nat} {t:TypeId} {k:IntKind} {L:List Int} (h:RowIn w b t k L) (i:Nat) (hi:i<L.length):w.cell? ⟨b,i,none⟩=some (.int k (L.getD i 0)) :=
 gI h (fV _ _ _ _ hi)
theorem RowIn.free {w:World} {b:Nat} {t:TypeId} {k:IntKind} {L:List Int} (h:RowIn w b t k L) (i:Nat):w.frozen? ⟨b,i,none⟩=false:=frozen_of_row _ _ _ _ _ h
theorem RowIn.put {w:World} {b:Nat} {t:TypeId} {k:IntKind} {L:List Int} (h:RowIn w b t k L) (i:Nat) (v:Int):RowIn (w.setCell ⟨b,i,none⟩ (.int k v)) b t k (L.set i v):=by
 unfold RowIn;rw[heap_setCell_same _ _ _ _ _ _ h];simp[List.map_set]
theorem RowIn.put_other {w:World} {b:Nat} {t:TypeId} {k:IntKind} {L:List Int} (h:RowIn w b t k L) (a:Addr) (v:Value) (ha:b≠a.block):RowIn (w.setCell a v) b t k L:=by
 unfold RowIn;rw[heap_setCell_other _ _ _ _ ha];exact h
theorem RowIn.drew {w:World} {b:Nat} {t:TypeId} {k:IntKind} {L:List Int} (h:RowIn w b t k L):RowIn w.drew b t k L:=h
theorem RowIn.lt {w:World} {b:Nat} {t:TypeId} {k:IntKind} {L:List Int} (h:RowIn w b t k L):b<w.heap.size:=by
 unfold RowIn at h;exact (Array.getElem?_eq_some_iff.1 h).1
theorem RowIn.alloc {w:World} {b:Nat} {t:TypeId} {k:IntKind} {L:List Int} (h:RowIn w b t k L) (o:Obj):RowIn (w.alloc o) b t k L:=by
 exact (heap_alloc_old w o h.lt).trans h
theorem RowIn.below {w w':World} {b B:Nat} {t:TypeId} {k:IntKind} {L:List Int} (h:RowIn w b t k L) (hb:Below B w w') (hlt:b<B):RowIn w' b t k L:=by
 unfold RowIn;rw[hb.block b hlt];exact h
theorem RowIn.setRow {w:World} {b:Nat} {t:TypeId} {k:IntKind} {L:List Int} (h:RowIn w b t k L) (M:List Int):RowIn (w.setRow b (M.map (Value.int k)).toArray) b t k M:=setRow_heap _ _ _ _ _ _ h
theorem aW (k:IntKind) (L:List Int):(L.map (Value.int k)).toArray.all (·.oneCell')=true :=
 all_oneCell_toArray (fun v hv=>by simp at hv;obtain⟨n,_,rfl⟩:=hv;rfl)
structure SchedAt (B:Nat) (w wr:World) (L:List Int):Prop where
 row:RowIn wr (B+1) 163 .u32 L
 res:RowIn wr B 163 .u32 (List.replicate 64 0)
 bel:Below B w wr
 size:wr.heap.size=B+2
theorem SchedAt.start (w:World):SchedAt w.heap.size w ((w.alloc (.cells (Array.replicate 64 (Value.int .u32 0)) 163)).alloc (.cells (Array.replicate 64 (Value.int .u32 0)) 163)) (aQ 64 []) :=
 ⟨heap_alloc2_new _ _ _,heap_alloc2_old _ _ _,((Below.refl _ _).alloc zl _).alloc (by simp) _,by simp⟩
theorem SchedAt.drew {B:Nat} {w wr:World} {L:List Int} (h:SchedAt B w wr L):SchedAt B w wr.drew L:=⟨h.row,h.res,h.bel.drew,h.size⟩
theorem SchedAt.drewN {B:Nat} {w wr:World} {L:List Int} (h:SchedAt B w wr L) (n:Nat):SchedAt B w (wr.drewN n) L:=⟨h.row,h.res,below_drewN h.bel n,h.size⟩
theorem SchedAt.put {B:Nat} {w wr:World} {L:List Int} (h:SchedAt B w wr L) (i:Nat) (v:Int):SchedAt B w (wr.setCell ⟨B+1,i,none⟩ (.int .u32 v)) (L.set i v) :=
 ⟨h.row.put i v,h.res.put_other _ _ (by simp),h.bel.setCell (by simp) _,by simp[World.setCell,h.size]⟩
theorem SchedAt.step {B:Nat} {w wr:World} {l:List Int} (h:SchedAt B w wr (aQ 64 l)) (hl:l.length<64) (v:Int):SchedAt B w (wr.setCell ⟨B+1,l.length,none⟩ (.int .u32 v)) (aQ 64 (l++[v])):=by
 rw[←eO _ _ _ hl];exact h.put _ _
def RP (B:Nat) (w:World) (p:List Int) (e:Ending) (w':World):Prop:=e=.returned (.agg ((iM p).map (Value.int .u32)).toArray)∧Below B w w'
theorem Tryz.info64u:(Tryz.prog.info? 163).map (·.size)=some 64:=by kernel_rfl
theorem xX (bb off cap:Nat) (p:List Int) (w:World) (hcap:64≤cap)
 (hc:∀ j,j<64→w.cell? ⟨bb,off+j,none⟩=some (.int .u8 (p.getD j 0))) (hbb:bb<w.heap.size)
 (hp:∀ j,0≤p.getD j 0∧p.getD j 0<256) :
  Calls Tryz.prog 179 #[.slice (some ⟨bb,off,none⟩) 64 cap] w (RP w.heap.size w p):=by
 have HC:=zh hc;clear hc;have HP:=zh hp;clear hp
 go_enter Tryz.func179,Tryz.ntmps179
 go_wp2
 go_loopw [11] (fun i wr=>∃ k:Nat,k≤16∧i=.int .i64 k∧SchedAt w.heap.size w wr (aQ 64 (msg p k))) (fun i _=>16-(intOf i).toNat)
 case atStart=>exact⟨0,by omega,rfl,SchedAt.start w⟩
 case round =>
  obtain⟨k,hk,rfl,hS⟩:=hrel;by_cases hlt:k<16
  ·have c0:wr.cell? ⟨bb,off+4*k,none⟩=some (.int .u8 (p.getD (4*k) 0)):=(hS.bel.cell (p:=⟨bb,off+4*k,none⟩) hbb).trans (HC.out (4*k) zo);have c1:wr.cell? ⟨bb,off+4*k+1,none⟩=some (.int .u8 (p.getD (4*k+1) 0)):=(hS.bel.cell (p:=⟨bb,off+4*k+1,none⟩) hbb).trans (HC.out (4*k+1) zo);have c2:wr.cell? ⟨bb,off+4*k+2,none⟩=some (.int .u8 (p.getD (4*k+2) 0)):=(hS.bel.cell (p:=⟨bb,off+4*k+2,none⟩) hbb).trans (HC.out (4*k+2) zo);have c3:wr.cell? ⟨bb,off+4*k+3,none⟩=some (.int .u8 (p.getD (4*k+3) 0)):=(hS.bel.cell (p:=⟨bb,off+4*k+3,none⟩) hbb).trans (HC.out (4*k+3) zo);have b0:=HP.out (4*k);have b1:=HP.out (4*k+1);have b2:=HP.out (4*k+2);have b3:=HP.out (4*k+3);generalize e0:p.getD (4*k) 0=x0 at *;generalize e1:p.getD (4*k+1) 0=x1 at *;generalize e2:p.getD (4*k+2) 0=x2 at *;generalize e3:p.getD (4*k+3) 0=x3 at *;have E:Hid (wd p k=bits .or .u32 (bits .or .u32 (bits .or .u32 (x0*16777216) (x1*65536)) (x2*256)) x3):=by
    subst e0 e1 e2 e3;rfl
   clear e0 e1 e2 e3;have hl:(aQ 64 (msg p k)).length=64:=cI _ _ (by rw[bP];omega);have ct:=hS.row.get k zo;have cf:=hS.row.free k;clear hl
   go_wp2
   go_region
   go_wp2
   go_roundw
   case rel =>
    refine⟨k+1,by omega,by go_num,?_⟩;have hs:=(hS.step (by rw[bP];omega) (wd p k)).drew;rw[bP,←DO,E.out] at hs;exact hs
   case measure=>simp[intOf];omega
  ·obtain rfl:k=16:=by omega
   rw[show ((16:Nat):Int)=16 from rfl]
   go_wp2
   go_loopw [6] (fun i wr=>∃ k:Nat,k≤48∧i=.int .i64 ((k:Int)+16)∧SchedAt w.heap.size w wr (aQ 64 (cW (msg p 16) k))) (fun i _=>64-(intOf i).toNat)
   case atStart=>exact⟨0,by omega,rfl,hS⟩
   case round =>
    clear hS;obtain⟨k,hk,rfl,hS⟩:=hrel;by_cases hlt:k<48
    ·have hl:(aQ 64 (cW (msg p 16) k)).length=64:=cI _ _ (by rw[bZ,bP];omega);have c0:=hS.row.get k zo;have c1:=hS.row.get (k+1) zo;have c9:=hS.row.get (k+9) zo;have c14:=hS.row.get (k+14) zo;have c16:=hS.row.get (k+16) zo;have cf:=hS.row.free (k+16);have E:Hid (AN (cW (msg p 16) k) k=ad (ad (ad ((aQ 64 (cW (msg p 16) k)).getD k 0) (sm0 ((aQ 64 (cW (msg p 16) k)).getD (k+1) 0))) ((aQ 64 (cW (msg p 16) k)).getD (k+9) 0)) (sm1 ((aQ 64 (cW (msg p 16) k)).getD (k+14) 0))):=by
      have hn:(cW (msg p 16) k).length=k+16:=by rw[bZ,bP];omega
      rw[dU _ _ _ zo,dU _ _ _ zo,dU _ _ _ zo,dU _ _ _ zo];rfl
     clear hl;generalize (aQ 64 (cW (msg p 16) k)).getD k 0=y0 at *;generalize (aQ 64 (cW (msg p 16) k)).getD (k+1) 0=y1 at *;generalize (aQ 64 (cW (msg p 16) k)).getD (k+9) 0=y9 at *;generalize (aQ 64 (cW (msg p 16) k)).getD (k+14) 0=y14 at *;generalize (aQ 64 (cW (msg p 16) k)).getD (k+16) 0=y16 at *;go_wp2_with fail
     go_quiet (fail)
     go_wp2_with fail
     with_reducible refine (ZH _ _).mono ?_
     rintro e w' ⟨rfl,rfl⟩;go_wp2_with fail
     with_reducible refine (UU _ _).mono ?_
     rintro e w' ⟨rfl,rfl⟩;go_wp2_with fail
     with_reducible refine (UV _ _).mono ?_
     rintro e w' ⟨rfl,rfl⟩;go_wp2_with fail
     with_reducible refine (UT _ _).mono ?_
     rintro e w' ⟨rfl,rfl⟩;go_wp2_with fail;go_region
     go_wp2
     go_roundw
     case rel =>
      refine⟨k+1,by omega,by go_num,?_⟩;have hn:(cW (msg p 16) k).length=k+16:=by rw[bZ,bP];omega
      have hs:=(hS.drewN (nq+1)).step zo (AN (cW (msg p 16) k) k);rw[hn,E.out] at hs;have hu:cW (msg p 16) (k+1)=cW (msg p 16) k++[AN (cW (msg p 16) k) k]:=rfl;rw[hu,E.out];simpa [ad,sm0,sm1,xr] using hs
     case measure=>simp[intOf];omega
    ·obtain rfl:k=48:=by omega
     have H1:=zh hS.row;have H2:=zh hS.res;have hi1:(Tryz.prog.info? 163).map (·.size)=some ((aQ 64 (cW (msg p 16) 48)).map (Value.int .u32)).toArray.size:=by
      rw[List.size_toArray,List.length_map,cI _ _ (by rw[bZ,bP];omega)];exact Tryz.info64u
     have HI:=zh hi1;clear hi1
     go_wp2_with (first
      | (refine wpList_load_row rfl 163 _ rfl (w.heap.size+1) rfl 163 _ (0,0) _ H1.out Tryz.underlying163 rfl HI.out ?_)
      | (refine wpList_store_row rfl 163 _ _ rfl w.heap.size _ rfl rfl 163 _ H2.out HI.out ?hold (aW _ _) ?_))
     case hold=>rw[List.size_toArray,List.size_toArray,List.length_map,List.length_map,cI _ _ (by rw[bZ,bP];omega)];rfl
     refine bodyPost_ret (results_cell_row (P:=Tryz.prog) rfl _ _ w.heap.size 163 _ (0,0) _ rfl (H2.out.setRow _) Tryz.underlying163 rfl HI.out) rfl ⟨?_,?_⟩
     ·rw[gJ _ _ (by rw[bZ,bP])];rfl
     ·exact below_setRow hS.bel zl _
theorem fZ {P:Program} {f:FuncId} {args:Array Value} {w:World} {n:Nat} {v:Value}
 (h:Calls P f args (w.drewN n) fun e w'=>e=.returned v∧w.drewN n=w'):Calls P f args (w.drewN n) fun e w''=>e=.returned v∧∃ m,w''=w.drewN m :=
 h.mono fun _ _ ⟨he,hm⟩=>⟨he,n,hm.symm⟩
def cF (st:St) (rest:List Int) (used:Nat) (len:Int):List Value :=
 st.list.map (Value.int .u32)++(rest.map (Value.int .u8)++[.int .i64 used,.int .u64 len])
structure HashIn (w:World) (b:Nat) (st:St) (rest:List Int) (used:Nat) (len:Int):Prop where
 blk:w.heap[b]? = some (.cells (cF st rest used len).toArray 186 (0,0))
 rl:rest.length=64
theorem HashIn.free {w:World} {b:Nat} {st:St} {rest:List Int} {used:Nat} {len:Int} (h:HashIn w b st rest used len) (i:Nat):w.frozen? ⟨b,i,none⟩=false:=frozen_of_row _ _ _ _ _ h.blk
theorem HashIn.word {w:World} {b:Nat} {st:St} {rest:List Int} {used:Nat} {len:Int} (h:HashIn w b st rest used len) (i:Nat) (hi:i<8):w.cell? ⟨b,i,none⟩=some (.int .u32 (st.list.getD i 0)) :=
 gI h.blk (by unfold cF;rw[List.getElem?_append_left (by simpa [St.list] using hi)];exact fV _ _ _ _ (by simpa [St.list] using hi))
theorem HashIn.byte {w:World} {b:Nat} {st:St} {rest:List Int} {used:Nat} {len:Int} (h:HashIn w b st rest used len) (i:Nat) (hi:i<64):w.cell? ⟨b,8+i,none⟩=some (.int .u8 (rest.getD i 0)) :=
 gI h.blk (by
  have:=h.rl;unfold cF;rw[List.getElem?_append_right (by simp[St.list]),List.getElem?_append_left (by simp[St.list];omega)];have e:8+i-(st.list.map (Value.int .u32)).length=i:=by simp[St.list]
  rw[e];exact fV _ _ _ _ zo)
theorem HashIn.usedAt {w:World} {b:Nat} {st:St} {rest:List Int} {used:Nat} {len:Int} (h:HashIn w b st rest used len):w.cell? ⟨b,72,none⟩=some (.int .i64 used) :=
 gI h.blk (by
  have:=h.rl;unfold cF;rw[List.getElem?_append_right (by simp[St.list]),List.getElem?_append_right (by simp[St.list];omega)];have e:72-(st.list.map (Value.int .u32)).length-(rest.map (Value.int .u8)).length=0:=by simp[St.list];omega
  rw[e];rfl)
theorem HashIn.lenAt {w:World} {b:Nat} {st:St} {rest:List Int} {used:Nat} {len:Int} (h:HashIn w b st rest used len):w.cell? ⟨b,73,none⟩=some (.int .u64 len) :=
 gI h.blk (by
  have:=h.rl;unfold cF;rw[List.getElem?_append_right (by simp[St.list]),List.getElem?_append_right (by simp[St.list];omega)];have e:73-(st.list.map (Value.int .u32)).length-(rest.map (Value.int .u8)).length=1:=by simp[St.list];omega
  rw[e];rfl)
theorem HashIn.below {w w':World} {b B:Nat} {st:St} {rest:List Int} {used:Nat} {len:Int} (h:HashIn w b st rest used len) (hb:Below B w w') (hlt:b<B):HashIn w' b st rest used len:=⟨(hb.block b hlt).trans h.blk,h.rl⟩
theorem HashIn.lt {w:World} {b:Nat} {st:St} {rest:List Int} {used:Nat} {len:Int} (h:HashIn w b st rest used len):b<w.heap.size:=(Array.getElem?_eq_some_iff.1 h.blk).1
theorem HashIn.alloc {w:World} {b:Nat} {st:St} {rest:List Int} {used:Nat} {len:Int} (h:HashIn w b st rest used len) (o:Obj):HashIn (w.alloc o) b st rest used len:=⟨(heap_alloc_old w o h.lt).trans h.blk,h.rl⟩
theorem HashIn.drew {w:World} {b:Nat} {st:St} {rest:List Int} {used:Nat} {len:Int} (h:HashIn w b st rest used len):HashIn w.drew b st rest used len:=⟨h.blk,h.rl⟩
theorem HashIn.drewN {w:World} {b:Nat} {st:St} {rest:List Int} {used:Nat} {len:Int} (h:HashIn w b st rest used len) (n:Nat):HashIn (w.drewN n) b st rest used len:=⟨h.blk,h.rl⟩
theorem HashIn.row_other {w:World} {b:Nat} {st:St} {rest:List Int} {used:Nat} {len:Int} (h:HashIn w b st rest used len) (g:Nat) (cs:Array Value) (ha:b≠g):HashIn (w.setRow g cs) b st rest used len:=⟨(setRow_other w g b cs ha).trans h.blk,h.rl⟩
theorem HashIn.stored {w:World} {b:Nat} {st:St} {rest:List Int} {used:Nat} {len:Int} (h:HashIn w b st rest used len) (i:Nat) (v:Value) {st':St} {rest':List Int} {used':Nat} {len':Int}
 (hr:rest'.length=64) (he:(cF st rest used len).set i v=cF st' rest' used' len'):HashIn (w.setCell ⟨b,i,none⟩ v) b st' rest' used' len' :=
 ⟨by rw[heap_setCell_same _ _ _ _ _ _ h.blk,←he];simp,hr⟩
theorem jM (st:St) (rest:List Int) (used used':Nat) (len:Int) (h:rest.length=64):(cF st rest used len).set 72 (.int .i64 used')=cF st rest used' len:=by
 unfold cF;rw[List.set_append_right _ _ (by simp[St.list]),List.set_append_right _ _ (by simp[St.list];omega)];have e:72-(st.list.map (Value.int .u32)).length-(rest.map (Value.int .u8)).length=0:=by simp[St.list];omega
 rw[e];rfl
theorem oU (st:St) (rest:List Int) (used:Nat) (len len':Int) (h:rest.length=64):(cF st rest used len).set 73 (.int .u64 len')=cF st rest used len':=by
 unfold cF;rw[List.set_append_right _ _ (by simp[St.list]),List.set_append_right _ _ (by simp[St.list];omega)];have e:73-(st.list.map (Value.int .u32)).length-(rest.map (Value.int .u8)).length=1:=by simp[St.list];omega
 rw[e];rfl
theorem jN (st:St) (rest:List Int) (used:Nat) (len:Int) (i:Nat) (v:Int) (h:rest.length=64) (hi:i<64):(cF st rest used len).set (8+i) (.int .u8 v)=cF st (rest.set i v) used len:=by
 unfold cF;rw[List.set_append_right _ _ (by simp[St.list]),List.set_append_left _ _ (by simp[St.list];omega)];have e:8+i-(st.list.map (Value.int .u32)).length=i:=by simp[St.list]
 rw[e,List.map_set]
def KayIn (w:World):Prop:=∀ i,i<64→w.cell? ⟨4,i,none⟩=some (.int .u32 (kay.getD i 0))
theorem KayIn.below {w w':World} {B:Nat} (h:KayIn w) (hb:Below B w w') (hlt:4<B):KayIn w':=fun i hi=>(hb.cell (p:=⟨4,i,none⟩) hlt).trans (h i hi)
theorem sX {w w':World} {row:Option Nat} (h:Below w.heap.size w w'):w.grownBy w' row:=⟨h.os,h.tape,h.output,h.size,fun k hk _=>h.block k hk⟩
theorem aU {w w':World} {hb:Nat} (h:w.grownBy w' (some hb)) (hlt:hb≤w.heap.size):Below hb w w':=⟨h.os,h.tape,h.output,h.size,fun k hk=>h.block k zo (fun e=>by injection e;omega)⟩
theorem bL {w w':World} {b:Nat} (h:w.grownBy w' (some b)) (i:Nat) (v:Value):w.grownBy (w'.setCell ⟨b,i,none⟩ v) (some b) :=
 ⟨h.os,h.tape,h.output,by simp[World.setCell];exact h.size,fun k hk hne=>(Below.heap_setCell _ _ _ _ (fun e=>hne (by rw[e]))).trans (h.block k hk hne)⟩
theorem bX {w w':World} {row:Option Nat} (h:w.grownBy w' row):w.grownBy w'.drew row:=⟨h.os,h.tape,h.output,h.size,h.block⟩
theorem BV {w w':World} {row:Option Nat} (h:w.grownBy w' row) (n:Nat):w.grownBy (w'.drewN n) row:=⟨h.os,h.tape,h.output,h.size,h.block⟩
theorem fG (hb bb off cap:Nat) (p:List Int) (st:St) (rest:List Int) (used:Nat) (len:Int) (w:World) (hcap:64≤cap)
 (hc:∀ j,j<64→w.cell? ⟨bb,off+j,none⟩=some (.int .u8 (p.getD j 0))) (hbb:bb<w.heap.size)
 (hp:∀ j,0≤p.getD j 0∧p.getD j 0<256) (hk:KayIn w) (_hk0:4<hb) (hh:HashIn w hb st rest used len) :
 Calls Tryz.prog 174 #[.pointer (some ⟨hb,0,none⟩),.slice (some ⟨bb,off,none⟩) 64 cap] w fun e w'=>e=.returned (.tuple #[])∧HashIn w' hb (qV st p) rest used len∧w.grownBy w' (some hb):=by
 have HC:=zh hc;clear hc;have HP:=zh hp;clear hp;have HK:=zh hk;clear hk;have hlt:=hh.lt
 go_enter Tryz.func174,Tryz.ntmps174
 go_wp2_with fail;refine (xX bb off cap p w hcap HC.out hbb HP.out).mono ?_;rintro e w1 ⟨rfl,hb1⟩;have hh1:=hh.below hb1 hlt;have hk1:=HK.out.below hb1 zo;have hi1:(Tryz.prog.info? 163).map (·.size)=some ((iM p).map (Value.int .u32)).toArray.size:=by
  rw[List.size_toArray,List.length_map,gQ];exact Tryz.info64u
 have HI:=zh hi1;clear hi1;have hw0:(w1.alloc (.cells (Array.replicate 64 (Value.int .u32 0)) 163)).heap[w1.heap.size]? = some (.cells (Array.replicate 64 (Value.int .u32 0)) 163 (0,0)):=heap_alloc_new _ _;have HW0:=zh hw0;clear hw0
 go_wp2_with (first
  | (refine wpList_store_row rfl 163 _ _ rfl w1.heap.size _ rfl rfl 163 _ HW0.out HI.out ?hold (aW _ _) ?_))
 case hold=>simp[gQ]
 generalize hw2:World.setRow _ _ _=w2;have hsz:=hb1.size;have hh2:HashIn w2 hb st rest used len:=by rw[←hw2];exact (hh1.alloc _).row_other _ _ zo
 have hbe2:Below w.heap.size w w2:=by rw[←hw2];exact below_setRow (hb1.alloc zo _) zo _
 have hr2:RowIn w2 w1.heap.size 163 .u32 (iM p):=by rw[←hw2];exact setRow_heap _ _ _ _ _ _ HW0.out
 have hk2:KayIn w2:=HK.out.below hbe2 zo;clear hw2 HW0 hh1 hk1 hb1;generalize w1.heap.size=g at *;have d0:w2.cell? ⟨hb,0,none⟩=some (.int .u32 st.a):=hh2.word 0 zo;have d1:w2.cell? ⟨hb,1,none⟩=some (.int .u32 st.b):=hh2.word 1 zo;have d2:w2.cell? ⟨hb,2,none⟩=some (.int .u32 st.c):=hh2.word 2 zo;have d3:w2.cell? ⟨hb,3,none⟩=some (.int .u32 st.d):=hh2.word 3 zo;have d4:w2.cell? ⟨hb,4,none⟩=some (.int .u32 st.e):=hh2.word 4 zo;have d5:w2.cell? ⟨hb,5,none⟩=some (.int .u32 st.f):=hh2.word 5 zo;have d6:w2.cell? ⟨hb,6,none⟩=some (.int .u32 st.g):=hh2.word 6 zo;have d7:w2.cell? ⟨hb,7,none⟩=some (.int .u32 st.h):=hh2.word 7 zo
 go_quiet (fail)
 clear d0 d1 d2 d3 d4 d5 d6 d7;generalize hw3:w2.drewN nq=w3;have hh3:HashIn w3 hb st rest used len:=by rw[←hw3];exact hh2.drewN _
 have hbe3:Below w.heap.size w w3:=by rw[←hw3];exact below_drewN hbe2 _
 have hr3:RowIn w3 g 163 .u32 (iM p):=by rw[←hw3];exact hr2
 have hk3:KayIn w3:=by rw[←hw3];exact hk2
 clear hw3 hh2 hbe2 hr2 hk2;have HK3:=zh hk3;clear hk3;go_wp2_with fail
 go_loopw [6,7,8,9,10,11,12,13,54] (fun a b c d e f g h i wr=>∃ (k n:Nat) (s:St),k≤64∧i=.int .i64 k∧wr=w3.drewN n∧Hid (PN (iM p) st k=s)∧a=.int .u32 s.a∧b=.int .u32 s.b∧c=.int .u32 s.c∧d=.int .u32 s.d∧e=.int .u32 s.e∧f=.int .u32 s.f∧g=.int .u32 s.g∧h=.int .u32 s.h)
  (fun _ _ _ _ _ _ _ _ i _=>64-(intOf i).toNat)
 case atStart=>exact⟨0,0,st,by omega,rfl,rfl,rfl,rfl,rfl,rfl,rfl,rfl,rfl,rfl,rfl⟩
 case round =>
  obtain⟨k,n,⟨sa,sb,sc,sd,se,sf,sg,sh⟩,hk,rfl,hwr,hs,rfl,rfl,rfl,rfl,rfl,rfl,rfl,rfl⟩:=hrel;have HWR:=zh hwr;clear hwr;by_cases hlt2:k<64
  ·have ck:wr.cell? ⟨4,k,none⟩=some (.int .u32 (kay.getD k 0)):=by rw[HWR.out];exact HK3.out k hlt2
   have cw:wr.cell? ⟨g,k,none⟩=some (.int .u32 ((iM p).getD k 0)):=by rw[HWR.out];exact hr3.get k (by rw[gQ];exact hlt2)
   have E:Hid (PN (iM p) st (k+1)=rnd (kay.getD k 0) ((iM p).getD k 0) ⟨sa,sb,sc,sd,se,sf,sg,sh⟩):=by show rnd _ _ _=_;rw[hs.out]
   generalize kay.getD k 0=kk at *;generalize (iM p).getD k 0=ww at *;clear hs;go_wp2_with fail
   go_quiet ((first | (go_at_call 180;exact fZ (QA _ _)) | (go_at_call 181;exact fZ (GZ _ _ _ _))))
   go_wp2_with fail
   with_reducible refine (QB _ _).mono ?_
   rintro e w' ⟨rfl,rfl⟩;go_wp2_with fail
   with_reducible refine (yX _ _ _ _).mono ?_
   rintro e w' ⟨rfl,rfl⟩
   go_wp2
   go_roundw
   case rel =>
    refine⟨k+1,n+nq,_,by omega,by go_num,by rw[HWR.out,World.drewN_drewN],E,?_⟩;simp[rnd,tOne,tTwo,ad,Int.add_assoc]
   case measure=>simp[intOf];omega
  ·obtain rfl:k=64:=by omega
   have hh4:HashIn wr hb st rest used len:=by rw[HWR.out];exact hh3.drewN _
   have hbe4:w.grownBy wr (some hb):=by rw[HWR.out];exact BV (sX hbe3) _
   clear HWR hr3 hh3 hbe3 HK3;go_wp2_with fail;have d:wr.cell? ⟨hb,0,none⟩=some (.int .u32 st.a):=hh4.word 0 zo;have fr:=hh4.free 0;go_region;go_wp2_with fail;generalize hw:World.drew _=x0;have hh5:HashIn x0 hb ⟨ad st.a sa,st.b,st.c,st.d,st.e,st.f,st.g,st.h⟩ rest used len:=by rw[←hw];exact (hh4.stored 0 (.int .u32 (ad st.a sa)) (st':=⟨ad st.a sa,st.b,st.c,st.d,st.e,st.f,st.g,st.h⟩) (rest':=rest) (used':=used) (len':=len) hh4.rl rfl).drew
   have hbe5:w.grownBy x0 (some hb):=by rw[←hw];exact bX (bL hbe4 0 _)
   clear hw d fr hh4 hbe4;have d:x0.cell? ⟨hb,1,none⟩=some (.int .u32 st.b):=hh5.word 1 zo;have fr:=hh5.free 1;go_region;go_wp2_with fail;generalize hw:World.drew _=x1;have hh6:HashIn x1 hb ⟨ad st.a sa,ad st.b sb,st.c,st.d,st.e,st.f,st.g,st.h⟩ rest used len:=by rw[←hw];exact (hh5.stored 1 (.int .u32 (ad st.b sb)) (st':=⟨ad st.a sa,ad st.b sb,st.c,st.d,st.e,st.f,st.g,st.h⟩) (rest':=rest) (used':=used) (len':=len) hh5.rl rfl).drew
   have hbe6:w.grownBy x1 (some hb):=by rw[←hw];exact bX (bL hbe5 1 _)
   clear hw d fr hh5 hbe5;have d:x1.cell? ⟨hb,2,none⟩=some (.int .u32 st.c):=hh6.word 2 zo;have fr:=hh6.free 2;go_region;go_wp2_with fail;generalize hw:World.drew _=x2;have hh7:HashIn x2 hb ⟨ad st.a sa,ad st.b sb,ad st.c sc,st.d,st.e,st.f,st.g,st.h⟩ rest used len:=by rw[←hw];exact (hh6.stored 2 (.int .u32 (ad st.c sc)) (st':=⟨ad st.a sa,ad st.b sb,ad st.c sc,st.d,st.e,st.f,st.g,st.h⟩) (rest':=rest) (used':=used) (len':=len) hh6.rl rfl).drew
   have hbe7:w.grownBy x2 (some hb):=by rw[←hw];exact bX (bL hbe6 2 _)
   clear hw d fr hh6 hbe6;have d:x2.cell? ⟨hb,3,none⟩=some (.int .u32 st.d):=hh7.word 3 zo;have fr:=hh7.free 3;go_region;go_wp2_with fail;generalize hw:World.drew _=x3;have hh8:HashIn x3 hb ⟨ad st.a sa,ad st.b sb,ad st.c sc,ad st.d sd,st.e,st.f,st.g,st.h⟩ rest used len:=by rw[←hw];exact (hh7.stored 3 (.int .u32 (ad st.d sd)) (st':=⟨ad st.a sa,ad st.b sb,ad st.c sc,ad st.d sd,st.e,st.f,st.g,st.h⟩) (rest':=rest) (used':=used) (len':=len) hh7.rl rfl).drew
   have hbe8:w.grownBy x3 (some hb):=by rw[←hw];exact bX (bL hbe7 3 _)
   clear hw d fr hh7 hbe7;have d:x3.cell? ⟨hb,4,none⟩=some (.int .u32 st.e):=hh8.word 4 zo;have fr:=hh8.free 4;go_region;go_wp2_with fail;generalize hw:World.drew _=x4;have hh9:HashIn x4 hb ⟨ad st.a sa,ad st.b sb,ad st.c sc,ad st.d sd,ad st.e se,st.f,st.g,st.h⟩ rest used len:=by rw[←hw];exact (hh8.stored 4 (.int .u32 (ad st.e se)) (st':=⟨ad st.a sa,ad st.b sb,ad st.c sc,ad st.d sd,ad st.e se,st.f,st.g,st.h⟩) (rest':=rest) (used':=used) (len':=len) hh8.rl rfl).drew
   have hbe9:w.grownBy x4 (some hb):=by rw[←hw];exact bX (bL hbe8 4 _)
   clear hw d fr hh8 hbe8;have d:x4.cell? ⟨hb,5,none⟩=some (.int .u32 st.f):=hh9.word 5 zo;have fr:=hh9.free 5;go_region;go_wp2_with fail;generalize hw:World.drew _=x5;have hh10:HashIn x5 hb ⟨ad st.a sa,ad st.b sb,ad st.c sc,ad st.d sd,ad st.e se,ad st.f sf,st.g,st.h⟩ rest used len:=by rw[←hw];exact (hh9.stored 5 (.int .u32 (ad st.f sf)) (st':=⟨ad st.a sa,ad st.b sb,ad st.c sc,ad st.d sd,ad st.e se,ad st.f sf,st.g,st.h⟩) (rest':=rest) (used':=used) (len':=len) hh9.rl rfl).drew
   have hbe10:w.grownBy x5 (some hb):=by rw[←hw];exact bX (bL hbe9 5 _)
   clear hw d fr hh9 hbe9;have d:x5.cell? ⟨hb,6,none⟩=some (.int .u32 st.g):=hh10.word 6 zo;have fr:=hh10.free 6;go_region;go_wp2_with fail;generalize hw:World.drew _=x6;have hh11:HashIn x6 hb ⟨ad st.a sa,ad st.b sb,ad st.c sc,ad st.d sd,ad st.e se,ad st.f sf,ad st.g sg,st.h⟩ rest used len:=by rw[←hw];exact (hh10.stored 6 (.int .u32 (ad st.g sg)) (st':=⟨ad st.a sa,ad st.b sb,ad st.c sc,ad st.d sd,ad st.e se,ad st.f sf,ad st.g sg,st.h⟩) (rest':=rest) (used':=used) (len':=len) hh10.rl rfl).drew
   have hbe11:w.grownBy x6 (some hb):=by rw[←hw];exact bX (bL hbe10 6 _)
   clear hw d fr hh10 hbe10;have d:x6.cell? ⟨hb,7,none⟩=some (.int .u32 st.h):=hh11.word 7 zo;have fr:=hh11.free 7;go_region;go_wp2_with fail;generalize hw:World.drew _=x7;have hh12:HashIn x7 hb ⟨ad st.a sa,ad st.b sb,ad st.c sc,ad st.d sd,ad st.e se,ad st.f sf,ad st.g sg,ad st.h sh⟩ rest used len:=by rw[←hw];exact (hh11.stored 7 (.int .u32 (ad st.h sh)) (st':=⟨ad st.a sa,ad st.b sb,ad st.c sc,ad st.d sd,ad st.e se,ad st.f sf,ad st.g sg,ad st.h sh⟩) (rest':=rest) (used':=used) (len':=len) hh11.rl rfl).drew
   have hbe12:w.grownBy x7 (some hb):=by rw[←hw];exact bX (bL hbe11 7 _)
   clear hw d fr hh11 hbe11;go_end0;exact⟨rfl,by unfold qV;rw[hs.out];exact hh12,hbe12⟩
theorem kS (hb bb off cap:Nat) (p:List Int) (st:St) (rest:List Int) (used:Nat) (len:Int) (w:World) (hcap:64≤cap)
 (hc:∀ j,j<64→w.cell? ⟨bb,off+j,none⟩=some (.int .u8 (p.getD j 0))) (hbb:bb<w.heap.size)
 (hp:∀ j,0≤p.getD j 0∧p.getD j 0<256) (hk:KayIn w) (hk0:4<hb) (hh:HashIn w hb st rest used len) :
 Calls Tryz.prog 174 #[.pointer (some ⟨hb,0,none⟩),.slice (some ⟨bb,off,none⟩) 64 cap] w fun e w'=>e=.returned (.tuple #[])∧HashIn w' hb (qV st p) rest used len∧Below hb w w' :=
 (fG hb bb off cap p st rest used len w hcap hc hbb hp hk hk0 hh).mono fun _ _ ⟨a,b,c⟩=>⟨a,b,aU c (Nat.le_of_lt hh.lt)⟩
end Go.Proofs.YtaeobegaodhpcaaGreatDoor
