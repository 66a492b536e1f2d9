/-
  Keys of many one-time keys: the walks of parents and levels (condition: the table of constants reads as it is laid).
-/
import Derived.Test.YtaeobegaodhpcaaGreatDoorZip
import Derived.Test.YtaeobegaodhpcaaGreatDoorQ9
import Derived.Deep.Cut
set_option maxRecDepth 100000
set_option maxHeartbeats 8000000
namespace Go.Proofs.YtaeobegaodhpcaaGreatDoor
open Go.RowKit Go.Proofs.YtaeobegaodhpcaaGreatDoor.One
theorem eC (x:List Int) (h k:Nat):(mG x h k).length=2 ^ (h-k):=by simp[mG]
theorem LI (x:List Int) {h k i:Nat} (hi:i<2 ^ (h-k)):(mG x h k).getD i []=iR x k i:=by
 unfold mG;simp[List.getD_eq_getElem?_getD,hi]
structure NumSl (w:World) (k:Int) (v:Value) (w0:World):Prop where
 k:w0.cell? ⟨w.heap.size,0,none⟩=some (.int .i64 k)
 v:w0.cell? ⟨w.heap.size+1,0,none⟩=some v
 b:Below w.heap.size w w0
 s:w0.heap.size=w.heap.size+2
theorem NumSl.new (w:World) (k:Int) (v:Value):NumSl w k v ((w.alloc (.cells #[.int .i64 k] 3)).alloc (.cells #[v] 46)):=by
 have h1:=heap_alloc_new w (.cells #[.int .i64 k] 3);have b1:=aA w (.cells #[.int .i64 k] 3);have s1:=aF w (.cells #[.int .i64 k] 3);generalize w.alloc (.cells #[.int .i64 k] 3)=w1 at *;have h2:=heap_alloc_new w1 (.cells #[v] 46);have b2:=aA w1 (.cells #[v] 46);have s2:=aF w1 (.cells #[v] 46);generalize w1.alloc (.cells #[v] 46)=w2 at *;rw[s1] at h2;exact⟨aG (L:=[.int .i64 k]) ((b2.block _ zo).trans h1) rfl,aG (L:=[v]) h2 rfl,b1.trans (b2.mono zo),by omega⟩
theorem BI (k n m:Nat) (sp:Option Addr) (cap:Nat) (l:List (List Int)) (w:World) (hl:HvsIn w w.heap.size sp n cap l) (hnm:n=2*m) (hm:0<m) (hn:n≤1000000) (hk:KayIn w) (hk0:4<w.heap.size) :
 Calls Tryz.prog 133 #[.int .i64 (k:Int),.slice sp n cap] w fun e w'=>∃ g,e=.returned (.slice (some ⟨g,0,none⟩) m m)∧w.heap.size≤g∧OwnHv w' w.heap.size (.slice (some ⟨g,0,none⟩) m m) ((List.range m).map fun i:Nat=>eX (k:Int) (i:Int) (l.getD (2*i) []) (l.getD (2*i+1) []))∧Below w.heap.size w w':=by
 obtain⟨sb,so,hpl⟩:=hl.place;obtain rfl:=hpl zo;have HL:=zh hl;have HK:=zh hk;have HNM:=zh hnm;clear hl hk hpl;have hq:(n:Int) / 2=(m:Int):=by omega
 have hmm:m≤1000000:=by omega
 clear hnm;have HT:=zh (NumSl.new w k (.slice (some ⟨sb,so,none⟩) n cap));have c1:=(NumSl.new w k (.slice (some ⟨sb,so,none⟩) n cap)).v
 go_enter Tryz.func133,Tryz.ntmps133
 go_wp2_with fail;clear c1;generalize hw0:World.alloc (World.alloc w _) _=w0;have HT0:Hid (NumSl w k (.slice (some ⟨sb,so,none⟩) n cap) w0):=by rw[←hw0];exact HT.out
 clear hw0 HT;have hs0:w.heap.size+2≤w0.heap.size:=Nat.le_of_eq HT0.out.s.symm
 have HC:=zh (DA 162 w.heap.size (w.heap.size+1) m (fun i:Nat=>eX (k:Int) (i:Int) (l.getD (2*i) []) (l.getD (2*i+1) [])) w0 (fun i=>bK _ _ _ _) hmm (enters_of Tryz.func162 (by kernel_rfl) rfl)
  (fun i hi w' hb=>PW k i n cap w.heap.size (w.heap.size+1) sb so l w' ((hb.cell (p:=⟨w.heap.size,0,none⟩) (by show w.heap.size<_;omega)).trans HT0.out.k) (by have:=hb.size;omega) ((hb.cell (p:=⟨w.heap.size+1,0,none⟩) (by show w.heap.size+1<_;omega)).trans HT0.out.v) (by have:=hb.size;omega)
   ((HL.out.below (HT0.out.b.trans (hb.mono zo)) zl).more (by have:=hb.size;omega)) (by have:=HNM.out;omega) hn (HK.out.below (HT0.out.b.trans (hb.mono zo)) hk0) (by have:=hb.size;omega)))
 refine HC.out.mono ?_;rintro e w1 ⟨rfl,ho,hb1⟩;have HO:=zh ho;have HB1:Hid (Bw w w1):=HT0.out.b.trans (hb1.mono zo);clear ho hb1;go_wp2_with fail;go_ret;exact⟨w0.heap.size,rfl,by omega,HO.out.base zo,HB1.out⟩
theorem rS (x:List Int) {h k:Nat} (hk:k<h):(List.range (2 ^ (h-(k+1)))).map (fun i:Nat=>eX (k:Int) (i:Int) ((mG x h k).getD (2*i) []) ((mG x h k).getD (2*i+1) []))=mG x h (k+1):=by
 show _=(List.range (2 ^ (h-(k+1)))).map _;refine List.map_congr_left fun i hi=>?_;have hi2:i<2 ^ (h-(k+1)):=List.mem_range.1 hi;have e:2 ^ (h-k)=2*2 ^ (h-(k+1)):=by rw[show h-k=h-(k+1)+1 by omega,Nat.pow_succ];omega
 rw[LI x zo,LI x zo,yS]
theorem rQ {h:Nat} (hh:h≤6) (k:Nat):2 ^ (h-k)≤64:=by
 have:2 ^ (h-k)≤2 ^ 6:=Nat.pow_le_pow_right zo zo;omega
theorem tW (x:List Int) (h:Nat) (w:World) (hs:H16 x) (hh:h≤6) (hk:KayIn w) (hk0:4<w.heap.size) :
 Calls Tryz.prog 96 #[.agg (hvA x),.int .i64 (h:Int)] w fun e w'=>∃ g cap,e=.returned (.slice (some ⟨g,0,none⟩) (h+1:Nat) cap)∧h+1≤cap∧LvsIn w' w'.heap.size g (h+1) (mG x h)∧Below w.heap.size w w':=by
 have HS:=zh hs;have HK:=zh hk;clear hs hk;have HR:=zh (RowB.new w 42 x)
 go_enter Tryz.func96,Tryz.ntmps96
 go_wp2_with fail;generalize hw0:World.alloc w _=w0;have HR0:Hid (RowB w 42 x w0):=by rw[←hw0];exact HR.out
 clear hw0 HR;have hs0:=HR0.out.s;have HK0:=zh (HK.out.below HR0.out.b hk0);have HP6:=zh (rQ hh 0);refine (eM h w0 hh).mono ?_;rintro e w' ⟨rfl,rfl⟩
 have HC:=zh (OV 131 w.heap.size (2 ^ h) (fun i=>iR x 0 i) w0 (fun i=>fR _ _ _) (by have:=HP6.out;rw[Nat.sub_zero] at this;omega) (enters_of Tryz.func131 (by kernel_rfl) rfl)
  (fun i hi w' hb=>VM x i w.heap.size w' HS.out ((hb.block _ zo).trans HR0.out.r) (HK0.out.below hb zo) (by have:=hb.size;omega)))
 go_wp2_with fail;refine HC.out.mono ?_;rintro e w1 ⟨rfl,ho,hb1⟩;have hl0:(mG x h 0)=(List.range (2 ^ h)).map (fun i=>iR x 0 i):=by unfold mG;rw[Nat.sub_zero]
 rw[←hl0] at ho;have HLO:=zh (LvsOwn.one w1 (L:=mG x h) ho (by rw[eC,Nat.sub_zero]));have HB1:Hid (Bw w w1):=HR0.out.b.trans (hb1.mono zo);have HA:=zh (aA w1 (.cells #[.slice (some ⟨w0.heap.size,0,none⟩) (2 ^ h) (2 ^ h)] 46));have hs1:=HB1.out.size;clear hl0 ho hb1 HC HP6 HR0 hs0 HK0 HS;go_wp2_with fail;generalize hw2:World.alloc w1 _=w2;rw[hw2] at HLO HA;clear hw2;have HB2:=zh (HB1.out.trans (HA.out.mono hs1));have hs2:w1.heap.size≤w2.heap.size:=HA.out.size;clear HB1 HA;generalize w1.heap.size=base at *
 go_loopw [5,13] (fun v i wr=>∃ k:Nat,k≤h∧i=.int .i64 k∧Hid (LvsOwn wr base v (k+1) (mG x h))∧Hid (Below w.heap.size w wr)∧base≤wr.heap.size) (fun _ i _=>h-(intOf i).toNat)
 case atStart=>exact⟨0,by omega,rfl,HLO.out,HB2.out,hs2⟩
 case round =>
  clear HLO HB2 hs2;obtain⟨k,hkh,rfl,HLR,HBR,hsr⟩:=hrel;obtain⟨g,cap,rfl,hcap,HIN'⟩:=HLR.out.shape zo;have HIN:=zh HIN';clear HIN';by_cases hlt:k<h
  ·obtain⟨sp,n,c,hcell,hhv⟩:=HIN.out.at_ k zo;have HHV:=zh hhv;have hn2:2 ^ (h-k)=2*2 ^ (h-(k+1)):=by rw[show h-k=h-(k+1)+1 by omega,Nat.pow_succ];omega
   have HN:Hid (n=2*2 ^ (h-(k+1))):=by show _=_;rw[←hn2,←eC x h k];exact hhv.len.symm
   have hmp:0<2 ^ (h-(k+1)):=Nat.pow_pos zo;have HPL:=zh (rS x hlt);have h64:2 ^ (h-(k+1))≤64:=rQ hh _;clear hn2 hhv;have HLN:=zh (eC x h (k+1));generalize 2 ^ (h-(k+1))=m at *;have hd1:decide ((k:Int)<(h:Int))=true:=by simp;omega
   have p1:(0:Int)≤(k:Int):=by omega
   have p2:(k:Int)<(k:Int)+1:=by omega
   have p3:(k:Int)+1≤(cap:Int):=by omega
   have HKR:=zh (HK.out.below HBR.out hk0);have hkr:4<wr.heap.size:=by have:=HBR.out.size;omega
   go_wp2_with fail;refine (BI k n m sp c (mG x h k) wr HHV.out HN.out hmp (by have:=HN.out;omega) HKR.out hkr).mono ?_;rintro e w5 ⟨gp,rfl,hgp,ho5,hb5⟩;have HO5:=zh ho5;rw[HPL.out] at HO5;have HB5:=zh hb5;have hs5:=hb5.size;obtain⟨ps,hps,hown,hall⟩:=HLR.out.below hb5;have HPS:=zh hps;have CM:=zh hown;have TU:=zh hall;have hbs5:base≤w5.heap.size:=by omega
   clear ho5 hb5 hps hown hall hcell
   go_wp2_with (at_builtin;refine qD rfl (.tmp 16) (.tmp 23) rfl base _ ps rfl CM.out ⟨some ⟨gp,0,none⟩,m,m⟩ rfl (by have:=HPS.out;omega) hbs5 ?_;intro v8 w8 HO8 HB8 HG8)
   have HLS:Hid (LvsOwn w8 base v8 (k+1+1) (mG x h)):=LvsOwn.snoc HPS.out CM.out TU.out (q:=⟨some ⟨gp,0,none⟩,m,m⟩) HO5.out HLN.out HO8.out HG8.out;have HBS:=zh (HBR.out.trans ((HB5.out.mono HBR.out.size).trans (HB8.out.mono hs1)));have hss:base≤w8.heap.size:=by have:=HB8.out.size;omega
   go_roundw
   case rel=>exact⟨k+1,by omega,by go_num,HLS.out,HBS.out,hss⟩
   case measure=>simp[intOf];omega
  ·obtain rfl:k=h:=by omega
   have hd1:decide ((k:Int)<(k:Int))=false:=by simp
   go_wp2_with fail;go_ret;exact⟨g,cap,rfl,hcap,HIN.out,HBR.out⟩
def pkL (h:Int) (r:List Int):List Value:=.int .i64 h :: r.map (Value.int .u8)
def sgL (x:List Int) (h n:Int):List Value:=x.map (Value.int .u8)++[.int .i64 h,.int .i64 n]
def siL (leaf:Int) (c p:Value):List Value:=[.int .i64 leaf,c,p]
def pkA (h:Int) (r:List Int):Array Value:=(pkL h r).toArray
def sgA (x:List Int) (h n:Int):Array Value:=(sgL x h n).toArray
def siA (leaf:Int) (c p:Value):Array Value:=(siL leaf c p).toArray
def aH:Value:=.slice none 0 0
theorem LV:(Tryz.prog.info? 44).map (·.size)=some 17:=by kernel_rfl
theorem SV:(Tryz.prog.info? 52).map (·.size)=some 18:=by kernel_rfl
theorem LU:(Tryz.prog.info? 48).map (·.size)=some 3:=by kernel_rfl
theorem YR:(Tryz.prog.info? 44).map (·.zero)=some (some (.agg ([Value.int .i64 0]++List.replicate 16 (Value.int .u8 0)).toArray)):=by kernel_rfl
theorem YQ:(Tryz.prog.info? 52).map (·.zero)=some (some (.agg (List.replicate 16 (Value.int .u8 0)++[Value.int .i64 0,Value.int .i64 0]).toArray)):=by kernel_rfl
theorem jF {h:Int} {r:List Int} (hr:H16 r):(pkA h r).size=17:=by simp[pkA,pkL,hr.1]
theorem dD {x:List Int} {h n:Int} (hx:H16 x):(sgA x h n).size=18:=by simp[sgA,sgL,hx.1]
theorem dS {h:Int} {r:List Int} (hr:H16 r):(Tryz.prog.info? 44).map (·.size)=some (pkA h r).size:=by rw[jF hr];exact LV
theorem aV {x:List Int} {h n:Int} (hx:H16 x):(Tryz.prog.info? 52).map (·.size)=some (sgA x h n).size:=by rw[dD hx];exact SV
theorem aL (l:Int) (c p:Value):(Tryz.prog.info? 48).map (·.size)=some (siA l c p).size:=LU
theorem DJ (h:Int) (r:List Int):(pkA h r).all (·.oneCell')=true:=by
 rw[Array.all_eq_true];intro i hi;simp only[pkA,pkL,List.getElem_toArray]
 cases i with
 | zero=>rfl
 | succ i=>simp[Value.oneCell']
theorem dR (x:List Int) (h n:Int):(sgA x h n).all (·.oneCell')=true:=by
 have:∀ u ∈ sgL x h n,u.oneCell'=true:=fun u hu=>by
  rcases List.mem_append.1 hu with hu | hu
  ·obtain⟨i,_,rfl⟩:=List.mem_map.1 hu;rfl
  ·simp only[List.mem_cons,List.not_mem_nil,or_false] at hu;rcases hu with rfl | rfl <;> rfl
 unfold sgA;rw[List.all_toArray,List.all_eq_true];exact this
theorem wH (h:Int) (r:List Int) (hr:H16 r) (w:World) :
 (Instr.build 44 #[(0,.int .i64 h),(1,.agg (r.map (Value.int .u8)).toArray)]).run Tryz.prog w=.ok (.agg (pkA h r)) w:=by
 refine run_build w _ _ _ ?_;rw[pC YR Tryz.underlying44 (places:=[(0,1),(1,16)]) (by kernel_rfl)];show Instr.fill _ ([]++([Value.int .i64 0]++List.replicate 16 (Value.int .u8 0))).toArray [(0,.int .i64 h),(1,.agg (r.map (Value.int .u8)).toArray)]=_;rw[jP [Value.int .i64 h] [] [Value.int .i64 0] (List.replicate 16 (Value.int .u8 0)) (off:=0) (sz:=1) rfl rfl rfl rfl rfl,List.nil_append];rw[show [Value.int .i64 h]++List.replicate 16 (Value.int .u8 0)=[Value.int .i64 h]++(List.replicate 16 (Value.int .u8 0)++[]) by simp];rw[jP (r.map (Value.int .u8)) [Value.int .i64 h] (List.replicate 16 (Value.int .u8 0)) [] (off:=1) (sz:=16) rfl rfl (by rw[List.length_map,hr.1]) rfl (by simp)];simp[Instr.fill,pkA,pkL]
structure PkBox (w:World) (x:List Int) (w0:World):Prop where
 x:w0.heap[w.heap.size]? = some (.cells (hvA x) 42 (0,0))
 z:w0.heap[w.heap.size+1]? = some (.cells (pkA 0 bQ) 44 (0,0))
 b:Below w.heap.size w w0
 s:w0.heap.size=w.heap.size+2
theorem PkBox.new (w:World) (x:List Int):PkBox w x ((w.alloc (.cells (hvA x) 42)).alloc (.cells (pkA 0 bQ) 44)) :=
 ⟨(heap_alloc_old _ _ (by simp)).trans (heap_alloc_new w _),by have h:=heap_alloc_new (w.alloc (.cells (hvA x) 42)) (.cells (pkA 0 bQ) 44);rw[World.size_alloc] at h;exact h,((Below.refl _ _).alloc zl _).alloc (by simp) _,by simp⟩
theorem LH (x:List Int) (h:Nat):mG x h h=[iR x h 0]:=by unfold mG;rw[Nat.sub_self];rfl
theorem VI (x:List Int) (h:Nat) (w:World) (hs:H16 x) (hh:h≤6) (hk:KayIn w) (hk0:4<w.heap.size) :
 Calls Tryz.prog 59 #[.agg (hvA x),.int .i64 (h:Int)] w fun e w'=>e=.returned (.tuple #[.agg (pkA h (iR x h 0)),.int .i64 0])∧Below w.heap.size w w':=by
 have HS:=zh hs;have HK:=zh hk;clear hs hk;have HV:Hid (eI (h:Int)=true):=by show _=_;unfold eI;simp;omega
 have HT:=zh (PkBox.new w x)
 go_enter Tryz.func59,Tryz.ntmps59
 go_wp2_with fail;generalize hw0:World.alloc (World.alloc w _) _=w0;have HT0:Hid (PkBox w x w0):=by rw[←hw0];exact HT.out
 clear hw0 HT;refine (dO h w0).mono ?_;rintro e w' ⟨rfl,rfl⟩;rw[HV.out];have hs0:w.heap.size+2≤w0.heap.size:=Nat.le_of_eq HT0.out.s.symm;have HK0:=zh (HK.out.below HT0.out.b hk0)
 go_wp2_with (refine wpList_load_row rfl 42 _ rfl w.heap.size rfl 42 _ (0,0) _ HT0.out.x Tryz.underlying42 rfl (aI HS.out) ?_)
 refine (tW x h w0 HS.out hh HK0.out zo).mono ?_;rintro e w1 ⟨g,cap,rfl,hcap,hin,hb1⟩;obtain⟨sp,n,c,hcell,hhv⟩:=hin.at_ h zo;rw[LH] at hhv;obtain⟨sb,so,hpl⟩:=hhv.place;have hn1:n=1:=hhv.len.symm;obtain rfl:=hpl zo;subst hn1;obtain⟨sb',so',he,hsb,hc1,hr⟩:=hhv.cells zo;injection he with he;injection he with he1 he2;subst he1 he2
 have HR:Hid (w1.rangeAt sb so ((iR x h 0).map (Value.int .u8))):=by have:=hr 0 zo;rw[Nat.zero_mul,Nat.add_zero] at this;exact this
 have HNK:=zh (fR x h 0);have HB1:=zh hb1;have HZ1:Hid (Ah w1 (w.heap.size+1) (pkA 0 bQ) 44):=(hb1.block _ zo).trans HT0.out.z;have HBW:Hid (Bw w w1):=HT0.out.b.trans (hb1.mono zo);have p1:(0:Int)≤(h:Int):=by omega
 have p2:(h:Int)<(h:Int)+1:=by omega
 have p3:(h:Int)+1≤(cap:Int):=by omega
 clear hb1 hpl hhv hin hr HS HV;have HIR:=zh (bS HNK.out)
 go_wp2_with (first
  | (refine wpList_load_mid rfl 42 _ rfl sb so rfl _ _ HR.out Tryz.underlying42 rfl HIR.out ?_)
  | (refine bB rfl 44 [(0,.tmp 10),(1,.tmp 18)] rfl [(0,.int .i64 (h:Int)),(1,.agg ((iR x h 0).map (Value.int .u8)).toArray)] rfl _ (wH h (iR x h 0) HNK.out _) ?_)
  | (refine wpList_store_row rfl 44 _ _ rfl (w.heap.size+1) _ rfl rfl 44 _ HZ1.out (dS HNK.out) (by rw[jF HNK.out,jF aN]) (DJ _ _) ?_))
 exact bodyPost_ret (aC (P:=Tryz.prog) rfl _ _ (w.heap.size+1) 44 _ (0,0) _ rfl (setRow_heap _ _ _ _ _ _ HZ1.out) Tryz.underlying44 rfl (dS HNK.out)) rfl ⟨rfl,below_setRow HBW.out zo _⟩
theorem xor1F:∀ c:Fin 128,bits .xor .i64 (c.val:Int) 1=((nb c.val:Nat):Int):=by decide +kernel
theorem xor1 (i:Nat) (h:i<128):bits .xor .i64 (i:Int) 1=((nb i:Nat):Int):=xor1F ⟨i,h⟩
theorem VK {i n:Nat} (h:i<2*n):nb i<2*n:=by unfold nb;split <;> omega
theorem UH {P:Program} {w:World} (leaf k:Nat) (hk:k≤60):(Op.shift .shr .i64 (leaf:Int) .i64 (k:Int)).run P w=.ok (.int .i64 ((leaf / 2 ^ k:Nat):Int)) w:=by
 unfold Op.shift;rw[if_neg zo];have e:min ((k:Int).toNat) IntKind.i64.bits=k:=by
  rw[Int.toNat_natCast];exact Nat.min_eq_left (by show k≤64;omega)
 rw[e];show Result.ok (Value.int .i64 ((leaf:Int).fdiv (2 ^ k))) w=_;have e2:(leaf:Int).fdiv (2 ^ k)=((leaf / 2 ^ k:Nat):Int):=by
  have h2:(2:Int) ^ k=((2 ^ k:Nat):Int):=by simp
  rw[h2,Int.fdiv_eq_ediv_of_nonneg _ (Int.natCast_nonneg _)];exact (Int.natCast_ediv leaf (2 ^ k)).symm
 rw[e2]
theorem QQ {a:Act} {o:Oper} {w:World} {x y:Operand} (leaf k:Nat) (hk:k≤60) (ho:o.op=.binOp .shr 3 x y 3) (hx:a.eval x=.int .i64 (leaf:Int)) (hy:a.eval y=.int .i64 (k:Int)):(execOp a.eval o).run Tryz.prog w=.ok (Next.value (.int .i64 ((leaf / 2 ^ k:Nat):Int))) w:=by
 have hq:=UH (P:=Tryz.prog) (w:=w) leaf k hk;unfold execOp;simp only[ho,hx,hy];go_simp
theorem KV (x:List Int) (h leaf k p q g cap:Nat) (w:World) (hp:w.cell? ⟨p,0,none⟩=some (.slice (some ⟨g,0,none⟩) (h+1) cap)) (hpl:p<w.heap.size) (hc:h+1≤cap) (hL:LvsIn w w.heap.size g (h+1) (mG x h))
 (hq:w.cell? ⟨q,17,none⟩=some (.int .i64 (leaf:Int))) (hql:q<w.heap.size) (hk:k<h) (hl:leaf<2 ^ h) (hh:h≤6) :
 Calls Tryz.prog 129 #[.int .i64 (k:Int),.pointer (some ⟨p,0,none⟩),.pointer (some ⟨q,0,none⟩)] w fun e w'=>e=.returned (.agg (hvA (eG x leaf k)))∧Below w.heap.size w w':=by
 have HP:=zh hp;have HQ:=zh hq;have hgl:=hL.lt;obtain⟨sp,n,c,hcell,hhv⟩:=hL.at_ k zo;have HCG:=zh hcell;have e1:2 ^ h=2 ^ k*2 ^ (h-k):=by rw[←Nat.pow_add];congr 1;omega
 have e2:2 ^ (h-k)=2*2 ^ (h-(k+1)):=by rw[show h-k=h-(k+1)+1 by omega,Nat.pow_succ];omega
 have hi:leaf / 2 ^ k<2 ^ (h-k):=by rw[Nat.div_lt_iff_lt_mul (Nat.pow_pos zo),Nat.mul_comm,←e1];exact hl
 have h64:2 ^ (h-k)≤64:=rQ hh k;have hj:nb (leaf / 2 ^ k)<2 ^ (h-k):=by rw[e2] at hi ⊢;exact VK hi
 have hn:n=2 ^ (h-k):=by rw[←eC x h k];exact hhv.len.symm
 obtain⟨sb,so,hsp⟩:=hhv.place;obtain rfl:=hsp zo;obtain⟨sb',so',he,hsb,hnc,hr⟩:=hhv.cells zo;injection he with he;injection he with he1 he2;subst he1 he2
 have HX:Hid (w.rangeAt sb (so+nb (leaf / 2 ^ k)*16) ((eG x leaf k).map (Value.int .u8))):=by
  have h3:=hr (nb (leaf / 2 ^ k)) zo;rw[LI x hj] at h3;exact h3
 have eR:=zh (show H16 (eG x leaf k) from fR _ _ _);have hx1:=xor1 (leaf / 2 ^ k) zo;have HSH:=zh (fun (a:Act) (o:Oper) (w:World) (x y:Operand)=>QQ (a:=a) (o:=o) (w:=w) (x:=x) (y:=y) leaf k zo);have hk6:k≤6:=by omega
 have hjn:nb (leaf / 2 ^ k)<n:=by omega
 clear hp hq hL hcell hhv hsp hr e1 e2 hi hn hj h64 hl;generalize eG x leaf k=y at *;generalize hjj:nb (leaf / 2 ^ k)=j at *;clear hjj;generalize leaf / 2 ^ k=i at *;have HIX:=zh (bS eR.out);have HT:=zh (Zro.new w)
 go_enter Tryz.func129,Tryz.ntmps129
 go_wp2_with fail;generalize hw0:World.alloc w _=w0;have HT0:Hid (Zro w w0):=by rw[←hw0];exact HT.out
 clear hw0 HT;have p1:(0:Int)≤(k:Int):=by omega
 have p2:(k:Int)<(h:Int)+1:=by omega
 have p3:(h:Int)+1≤(cap:Int):=by omega
 have p4:(0:Int)≤(j:Int):=by omega
 have p5:(j:Int)<(n:Int):=by omega
 have p6:(n:Int)≤(c:Int):=by omega
 refine wp_region_held_drew (S:=fun w'=>Below w.heap.size w w'∧True) (by kernel_rfl) ⟨HT0.out.b.drew,trivial⟩ (fun hHeld=>?_);refine zx 0 rfl (v:=?_) ?_ ?_;rotate_left
 ·intro w' hSw;have c1:=(hSw.1.cell (p:=⟨p,0,none⟩) hpl).trans HP.out;go_simp;try with_reducible rfl
 refine zv 1 rfl ?_;refine zv 2 rfl ?_;refine zx 3 rfl (v:=?_) ?_ ?_;rotate_left
 ·intro w' hSw;have c1:=(hSw.1.cell (p:=⟨g,k,none⟩) hgl).trans HCG.out;go_simp;try with_reducible rfl
 refine zv 4 rfl ?_;refine zx 5 rfl (v:=?_) ?_ ?_;rotate_left
 ·intro w' hSw;have c1:=(hSw.1.cell (p:=⟨q,17,none⟩) hql).trans HQ.out;go_simp;try with_reducible rfl
 refine zv 6 rfl ?_;refine zx 7 rfl (v:=?_) ?_ ?_;rotate_left
 ·intro w' hSw;refine HSH.out _ _ _ (.tmp 10) (.tmp 11) ?_ ?_ ?_ <;> rfl
 refine zv 8 rfl ?_;refine zv 9 rfl ?_;refine' zk 10 rfl (v:=_) (yieldsIf_load_mid (by rfl) _ _ rfl _ _ rfl _ _ ?hS10n11 Tryz.underlying42 rfl HIX.out) ?rest10n11
 case hS10n11 =>
  intro w' hSw;exact aB HX.out hSw.1 hsb
 try simp only[Act.put,zu]
 refine zr 11 rfl (fun K hK=>?_);rw[if_pos (by rfl)];refine wp_store_row 42 _ _ rfl w.heap.size _ rfl rfl 42 _ HT0.out.z (aI eR.out) (cE eR.out) (cM _) ?_
 skip
 refine hK.out _ _ ⟨(below_setRow HT0.out.b zl _).drew,trivial⟩ fun _=>?_;clear hK K
 try simp only[Act.put,zu]
 refine zd ?_ _;go_wp2_with fail;exact bodyPost_ret (results_cell_row (P:=Tryz.prog) rfl _ _ w.heap.size 42 _ (0,0) _ rfl (setRow_heap _ _ _ _ _ _ HT0.out.z) Tryz.underlying42 rfl (aI eR.out)) rfl ⟨rfl,(below_setRow HT0.out.b zl _).drew⟩
theorem bT (w:World) (g:Nat) (cs:Array Value):w.grownBy (w.setRow g cs) (some g) :=
 ⟨rfl,rfl,rfl,by simp[World.setRow],fun k _ hne=>setRow_other w g k cs (fun e=>hne (by rw[e]))⟩
theorem aY (w:World) (g o:Nat) (v:Value):w.grownBy (w.setCell ⟨g,o,none⟩ v) (some g) :=
 ⟨rfl,rfl,rfl,by simp[World.setCell],fun k _ hne=>heap_setCell_other w ⟨g,o,none⟩ k v (fun e=>hne (by rw[e]))⟩
theorem OwnHv.apart {w:World} {base:Nat} {v:Value} {l:List (List Int)} (h:OwnHv w base v l) {g:Nat} {cs:Array Value} {t:TypeId} {fr:Nat × Nat} (hg:w.heap[g]? = some (.cells cs t fr)) (ht:t≠42):v.ownBlock=none∨v.ownBlock≠some g:=by
 obtain⟨_,⟨rfl,_⟩ | ⟨g2,cap,cur,rfl,_,hg2,_⟩⟩:=h.1
 ·exact .inl rfl
 ·refine .inr fun e=>?_;have e':g2=g:=by simpa [Value.ownBlock] using e
  subst e';rw[hg2] at hg;injection hg with hg
  injection hg with h1 h2
  exact ht h2.symm
theorem OwnHv.setRow {w:World} {base:Nat} {v:Value} {l:List (List Int)} (h:OwnHv w base v l) {g:Nat} {cs:Array Value} {t:TypeId} {fr:Nat × Nat} (hg:w.heap[g]? = some (.cells cs t fr)) (ht:t≠42) (cs':Array Value):OwnHv (w.setRow g cs') base v l :=
 ⟨World.ownsRow.kept h.1 (bT w g cs') (h.apart hg ht),h.2⟩
theorem OwnHv.setCell {w:World} {base:Nat} {v:Value} {l:List (List Int)} (h:OwnHv w base v l) {g:Nat} {cs:Array Value} {t:TypeId} {fr:Nat × Nat} (hg:w.heap[g]? = some (.cells cs t fr)) (ht:t≠42) (o:Nat) (u:Value):OwnHv (w.setCell ⟨g,o,none⟩ u) base v l :=
 ⟨World.ownsRow.kept h.1 (aY w g o u) (h.apart hg ht),h.2⟩
theorem YG {w:World} {b:Nat} {x:List Int} {h n:Int} (hb:w.heap[b]? = some (.cells (sgA x h n) 52 (0,0))):w.rangeAt b 0 (x.map (Value.int .u8)):=mZ (pre:=[]) (post:=[.int .i64 h,.int .i64 n]) hb (by simp[sgA,sgL]) rfl
theorem IK {w:World} {b:Nat} {x:List Int} {h n:Int} (hx:H16 x) (hb:w.heap[b]? = some (.cells (sgA x h n) 52 (0,0))):w.cell? ⟨b,16,none⟩=some (.int .i64 h):=by
 refine aG hb ?_;unfold sgL;rw[List.getElem?_append_right (by rw[List.length_map,hx.1];exact Nat.le_refl _),List.length_map,hx.1];rfl
theorem AW {w:World} {b:Nat} {x:List Int} {h n:Int} (hx:H16 x) (hb:w.heap[b]? = some (.cells (sgA x h n) 52 (0,0))):w.cell? ⟨b,17,none⟩=some (.int .i64 n):=by
 refine aG hb ?_;unfold sgL;rw[List.getElem?_append_right (by rw[List.length_map,hx.1];omega),List.length_map,hx.1];rfl
theorem KB {x:List Int} (hx:H16 x) (h n m:Int):(sgA x h n).setIfInBounds 17 (.int .i64 m)=sgA x h m:=by
 unfold sgA sgL;rw[List.setIfInBounds_toArray,List.set_append_right _ _ (by rw[List.length_map,hx.1];omega),List.length_map,hx.1];rfl
theorem yV:52≠42:=by decide
theorem iD:48≠42:=by decide
structure SgBox (w:World) (x:List Int) (h n:Int) (w0:World):Prop where
 s:w0.heap[w.heap.size]? = some (.cells (sgA x h n) 52 (0,0))
 b:Below w.heap.size w w0
 z:w0.heap.size=w.heap.size+1
theorem LvsIn.more {w:World} {B B' g m:Nat} {L:Nat→List (List Int)} (h:LvsIn w B g m L) (hB:B≤B'):LvsIn w B' g m L :=
 ⟨by have:=h.lt;omega,fun k hk=>by obtain⟨sp,n,cap,hc,hh⟩:=h.at_ k hk;exact⟨sp,n,cap,hc,hh.more hB⟩⟩
theorem SgBox.new (w:World) (x:List Int) (h n:Int):SgBox w x h n (w.alloc (.cells (sgA x h n) 52)):=⟨heap_alloc_new w _,aA _ _,aF _ _⟩
theorem VF (w:World) (v:Value):(w.alloc (.cells #[v] 132)).cell? ⟨w.heap.size,0,none⟩=some v:=aG (L:=[v]) (heap_alloc_new w _) rfl
theorem PU (x:List Int) (h leaf:Nat) (w:World) (hs:H16 x) (hh:h≤6) (hl:leaf<2 ^ h) (hk:KayIn w) (hk0:4<w.heap.size) :
 Calls Tryz.prog 94 #[.agg (sgA x h leaf)] w fun e w'=>∃ g,e=.returned (.slice (some ⟨g,0,none⟩) h h)∧OwnHv w' w.heap.size (.slice (some ⟨g,0,none⟩) h h) (eP x h leaf)∧Below w.heap.size w w':=by
 have HS:=zh hs;have HK:=zh hk;clear hs hk;have HL:=zh hl;clear hl;have HT:=zh (SgBox.new w x h leaf);have HIX:=zh (bS HS.out)
 go_enter Tryz.func94,Tryz.ntmps94
 generalize (sgA x (h:Int) (leaf:Int))=SA at *
 go_wp2_with (generalize hw0:World.alloc w _=w0;have HT0:Hid (SgBox w x h leaf w0):=(by rw[←hw0];exact HT.out);clear hw0 HT;have HX0:=zh (YG HT0.out.s);have c16:=IK HS.out HT0.out.s;refine wpList_load_mid rfl 42 _ rfl w.heap.size 0 rfl _ _ HX0.out Tryz.underlying42 rfl HIX.out ?_)
 clear c16;have hs0:w.heap.size+1≤w0.heap.size:=Nat.le_of_eq HT0.out.z.symm;have HK0:=zh (HK.out.below HT0.out.b hk0);refine (tW x h w0 HS.out hh HK0.out zo).mono ?_;rintro e w1 ⟨g,cap,rfl,hcap,hin,hb1⟩;have HIN:=zh hin;have HB1:=zh hb1;have HS1:Hid (Ah w1 w.heap.size (sgA x h leaf) 52):=(hb1.block _ zo).trans HT0.out.s;have hs1:=hb1.size;clear hin hb1;have HQ:=zh (VF w1 (.slice (some ⟨g,0,none⟩) (h+1) cap));have HQB:=zh (aA w1 (.cells #[.slice (some ⟨g,0,none⟩) (h+1) cap] 132));have HQS:=zh (aF w1 (.cells #[.slice (some ⟨g,0,none⟩) (h+1) cap] 132));have HC2:Hid ((w1.alloc (.cells #[.slice (some ⟨g,0,none⟩) (h+1) cap] 132)).heap[w.heap.size]? = some (.cells (sgA x h leaf) 52 (0,0))):=(HQB.out.block _ zo).trans HS1.out;have c16:=IK HS.out HC2.out;go_wp2_with fail;clear c16;generalize hw2:World.alloc w1 _=w2;rw[hw2] at HQ HQB HQS HC2;clear hw2;have hs2:w1.heap.size+1≤w2.heap.size:=Nat.le_of_eq HQS.out.symm
 have HC:=zh (DA 129 w1.heap.size w.heap.size h (eG x leaf) w2 (fun k=>fR _ _ _) zo (enters_of Tryz.func129 (by kernel_rfl) rfl)
  (fun k hk w' hb=>KV x h leaf k w1.heap.size w.heap.size g cap w' ((hb.cell (p:=⟨w1.heap.size,0,none⟩) (by show w1.heap.size<_;omega)).trans HQ.out) (by have:=hb.size;omega) hcap
   (((HIN.out.below HQB.out zl).below (hb.mono (by omega:w1.heap.size≤w2.heap.size)) zl).more (by have:=hb.size;omega))
   (AW HS.out ((hb.block _ zo).trans HC2.out)) (by have:=hb.size;omega) hk HL.out hh))
 refine HC.out.mono ?_;rintro e w3 ⟨rfl,ho,hb3⟩;have HO:=zh ho;have HB3:=zh hb3;clear ho hb3;go_wp2_with fail;go_ret;exact⟨w2.heap.size,rfl,HO.out.base zo,HT0.out.b.trans ((HB1.out.mono zo).trans ((HQB.out.mono zo).trans (HB3.out.mono zo)))⟩
theorem bA {P:Program} {fn:Func} {p q u:Tmp} {t1 t2:TypeId} (h:fn.results=#[.cell p t1,.cell q t2,.tmp u]) (tmps:Array Value) (w:World) (g1 g2:Nat) (e1 e2:TypeId) (c1 c2:Array Value) (f1 f2:Nat × Nat) (d1 d2:TypeDesc)
 (hp:tmps.getD p undef=.pointer (some ⟨g1,0,none⟩)) (hg1:w.heap[g1]? = some (.cells c1 e1 f1)) (hq:tmps.getD q undef=.pointer (some ⟨g2,0,none⟩)) (hg2:w.heap[g2]? = some (.cells c2 e2 f2))
 (hu1:P.underlying t1=some d1) (hd1:(match d1 with | .struct _ | .array _ _=>true | _=>false)=true) (hi1:(P.info? t1).map (·.size)=some c1.size)
 (hu2:P.underlying t2=some d2) (hd2:(match d2 with | .struct _ | .array _ _=>true | _=>false)=true) (hi2:(P.info? t2).map (·.size)=some c2.size) :
 (results fn tmps).run P w=.ok (.tuple #[.agg c1,.agg c2,tmps.getD u undef]) w:=by
 have hp':tmps[p]?.getD undef=.pointer (some ⟨g1,0,none⟩):=by simpa using hp
 have hq':tmps[q]?.getD undef=.pointer (some ⟨g2,0,none⟩):=by simpa using hq
 simp[results,h,hp',hq',asAddr,run_loadVar_row w g1 e1 t1 c1 f1 d1 hg1 hu1 hd1 hi1,run_loadVar_row w g2 e2 t2 c2 f2 d2 hg2 hu2 hd2 hi2]
theorem cO (l:Int) (s1:Option Addr) (n1 c1:Nat) (s2:Option Addr) (n2 c2:Nat):(siA l (.slice s1 n1 c1) (.slice s2 n2 c2)).all (·.oneCell')=true:=by
 simp[siA,siL,Value.oneCell']
theorem fF (w:World):(Instr.build 52 #[]).run Tryz.prog w=.ok (.agg (sgA bQ 0 0)) w:=by kernel_rfl
theorem gW (w:World):(Instr.build 48 #[]).run Tryz.prog w=.ok (.agg (siA 0 aH aH)) w:=by kernel_rfl
structure SnBox (w:World) (x:List Int) (h n:Int) (d:List Int) (w0:World):Prop where
 s:w0.heap[w.heap.size]? = some (.cells (sgA x h n) 52 (0,0))
 d:w0.heap[w.heap.size+1]? = some (.cells (dgA d) 77 (0,0))
 y:w0.heap[w.heap.size+2]? = some (.cells (sgA bQ 0 0) 52 (0,0))
 z:w0.heap[w.heap.size+3]? = some (.cells (siA 0 aH aH) 48 (0,0))
 b:Below w.heap.size w w0
 k:w0.heap.size=w.heap.size+4
theorem SnBox.new (w:World) (x:List Int) (h n:Int) (d:List Int):SnBox w x h n d ((((w.alloc (.cells (sgA x h n) 52)).alloc (.cells (dgA d) 77)).alloc (.cells (sgA bQ 0 0) 52)).alloc (.cells (siA 0 aH aH) 48)):=by
 have h1:=heap_alloc_new w (.cells (sgA x h n) 52);have b1:=aA w (.cells (sgA x h n) 52);have s1:=aF w (.cells (sgA x h n) 52);generalize w.alloc (.cells (sgA x h n) 52)=w1 at *;have h2:=heap_alloc_new w1 (.cells (dgA d) 77);have b2:=aA w1 (.cells (dgA d) 77);have s2:=aF w1 (.cells (dgA d) 77);generalize w1.alloc (.cells (dgA d) 77)=w2 at *;have h3:=heap_alloc_new w2 (.cells (sgA bQ 0 0) 52);have b3:=aA w2 (.cells (sgA bQ 0 0) 52);have s3:=aF w2 (.cells (sgA bQ 0 0) 52);generalize w2.alloc (.cells (sgA bQ 0 0) 52)=w3 at *;have h4:=heap_alloc_new w3 (.cells (siA 0 aH aH) 48);have b4:=aA w3 (.cells (siA 0 aH aH) 48);have s4:=aF w3 (.cells (siA 0 aH aH) 48);generalize w3.alloc (.cells (siA 0 aH aH) 48)=w4 at *;have b34:=b3.trans (b4.mono zo);have b24:=b2.trans (b34.mono zo);refine⟨(b24.block _ zo).trans h1,?_,?_,?_,b1.trans (b24.mono zo),by omega⟩
 ·rw[←s1];exact (b34.block _ zo).trans h2
 ·rw[show w.heap.size+2=w2.heap.size by omega];exact (b4.block _ zo).trans h3
 ·rw[show w.heap.size+3=w3.heap.size by omega];exact h4
theorem PA (x:List Int) (h n:Int) (d:List Int) (w:World) (hs:H16 x) (hd:D32 d) (hv:eI h=false∨n<0) :
 Calls Tryz.prog 57 #[.agg (sgA x h n),.agg (dgA d)] w fun e w'=>e=.returned (.tuple #[.agg (sgA bQ 0 0),.agg (siA 0 aH aH),.int .i64 1])∧Below w.heap.size w w':=by
 have HS:=zh hs;have HD:=zh hd;clear hs hd;have HT:=zh (SnBox.new w x h n d);have hn2:eI h=true→decide (n<0)=true:=fun hg=>by rcases hv with hv | hv <;> simp_all
 clear hv;have HV:Hid (eI h=true→decide (n<0)=true):=hn2;clear hn2
 go_enter Tryz.func57,Tryz.ntmps57
 generalize (sgA x h n)=SA at *
 go_upto_region 1 with (fail)
 generalize hw0:World.alloc (World.alloc (World.alloc (World.alloc w _) _) _) _=w0;have HT0:Hid (SnBox w x h n d w0):=by rw[←hw0];exact HT.out
 clear hw0 HT;have hs0:w.heap.size+4≤w0.heap.size:=Nat.le_of_eq HT0.out.k.symm;have c16:=IK HS.out HT0.out.s;have c17:=AW HS.out HT0.out.s;go_wp2_with fail;refine (dO h w0).mono ?_;rintro e w' ⟨rfl,rfl⟩;have HY:=zh (HT0.out.y);have HZ:=zh (HT0.out.z);have hbs:=fF;have hbi:=gW;by_cases hg:eI h=true
 ·have hn2:=HV.out hg;rw[hg];clear hg HV
  go_wp2_with (first
   | (refine wpList_store_row rfl 52 _ _ rfl (w.heap.size+1+1) (sgA bQ 0 0) rfl rfl 52 _ HY.out (aV aN) rfl (dR _ _ _) ?_;generalize hw8:World.setRow w0 _ _=w8;have HY8:Hid (Ah w8 (w.heap.size+1+1) (sgA bQ 0 0) 52):=(by rw[←hw8];exact setRow_heap _ _ _ _ _ _ HY.out);have HZ8:Hid (Ah w8 (w.heap.size+1+1+1) (siA 0 aH aH) 48):=(by rw[←hw8];exact (setRow_other _ _ _ _ zo).trans HZ.out);have HB8:Hid (Bw w w8):=(by rw[←hw8];exact below_setRow HT0.out.b zo _);clear hw8)
   | (refine wpList_store_row rfl 48 _ _ rfl (w.heap.size+1+1+1) (siA 0 aH aH) rfl rfl 48 _ HZ8.out (aL _ _ _) rfl (cO _ _ _ _ _ _ _) ?_;generalize hw9:World.setRow w8 _ _=w9;have HZ9:Hid (Ah w9 (w.heap.size+1+1+1) (siA 0 aH aH) 48):=(by rw[←hw9];exact setRow_heap _ _ _ _ _ _ HZ8.out);have HY9:Hid (Ah w9 (w.heap.size+1+1) (sgA bQ 0 0) 52):=(by rw[←hw9];exact (setRow_other _ _ _ _ zo).trans HY8.out);have HB9:Hid (Bw w w9):=(by rw[←hw9];exact below_setRow HB8.out zo _);clear hw9))
  exact bodyPost_ret (bA (P:=Tryz.prog) rfl _ _ (w.heap.size+1+1) (w.heap.size+1+1+1) 52 48 _ _ (0,0) (0,0) _ _ rfl HY9.out rfl HZ9.out Tryz.underlying52 rfl (aV aN) Tryz.underlying48 rfl (aL _ _ _)) rfl ⟨rfl,HB9.out⟩
 ·have hg2:eI h=false:=by simpa using hg
  rw[hg2];clear hg hg2 HV
  go_wp2_with (first
   | (refine wpList_store_row rfl 52 _ _ rfl (w.heap.size+1+1) (sgA bQ 0 0) rfl rfl 52 _ HY.out (aV aN) rfl (dR _ _ _) ?_;generalize hw8:World.setRow w0 _ _=w8;have HY8:Hid (Ah w8 (w.heap.size+1+1) (sgA bQ 0 0) 52):=(by rw[←hw8];exact setRow_heap _ _ _ _ _ _ HY.out);have HZ8:Hid (Ah w8 (w.heap.size+1+1+1) (siA 0 aH aH) 48):=(by rw[←hw8];exact (setRow_other _ _ _ _ zo).trans HZ.out);have HB8:Hid (Bw w w8):=(by rw[←hw8];exact below_setRow HT0.out.b zo _);clear hw8)
   | (refine wpList_store_row rfl 48 _ _ rfl (w.heap.size+1+1+1) (siA 0 aH aH) rfl rfl 48 _ HZ8.out (aL _ _ _) rfl (cO _ _ _ _ _ _ _) ?_;generalize hw9:World.setRow w8 _ _=w9;have HZ9:Hid (Ah w9 (w.heap.size+1+1+1) (siA 0 aH aH) 48):=(by rw[←hw9];exact setRow_heap _ _ _ _ _ _ HZ8.out);have HY9:Hid (Ah w9 (w.heap.size+1+1) (sgA bQ 0 0) 52):=(by rw[←hw9];exact (setRow_other _ _ _ _ zo).trans HY8.out);have HB9:Hid (Bw w w9):=(by rw[←hw9];exact below_setRow HB8.out zo _);clear hw9))
  exact bodyPost_ret (bA (P:=Tryz.prog) rfl _ _ (w.heap.size+1+1) (w.heap.size+1+1+1) 52 48 _ _ (0,0) (0,0) _ _ rfl HY9.out rfl HZ9.out Tryz.underlying52 rfl (aV aN) Tryz.underlying48 rfl (aL _ _ _)) rfl ⟨rfl,HB9.out⟩
theorem PB (x:List Int) (h:Nat) (n:Int) (d:List Int) (w:World) (hs:H16 x) (hd:D32 d) (hh:h≤6) (hn:lvN h≤n) :
 Calls Tryz.prog 57 #[.agg (sgA x h n),.agg (dgA d)] w fun e w'=>e=.returned (.tuple #[.agg (sgA bQ 0 0),.agg (siA 0 aH aH),.int .i64 13])∧Below w.heap.size w w':=by
 have HS:=zh hs;have HD:=zh hd;clear hs hd;have HV:Hid (eI (h:Int)=true):=by show _=_;unfold eI;simp;omega
 have HN0:Hid (decide (n<0)=false):=by show _=_;unfold lvN at hn;simp;have:=Int.natCast_nonneg (2 ^ h);omega
 have hn1:decide (n ≥ lvN h)=true:=by simp;exact hn
 have HT:=zh (SnBox.new w x h n d)
 go_enter Tryz.func57,Tryz.ntmps57
 generalize (sgA x h n)=SA at *
 go_upto_region 1 with (fail)
 generalize hw0:World.alloc (World.alloc (World.alloc (World.alloc w _) _) _) _=w0;have HT0:Hid (SnBox w x h n d w0):=by rw[←hw0];exact HT.out
 clear hw0 HT;have hs0:w.heap.size+4≤w0.heap.size:=Nat.le_of_eq HT0.out.k.symm;have c16:=IK HS.out HT0.out.s;have c17:=AW HS.out HT0.out.s;go_wp2_with fail;refine (dO h w0).mono ?_;rintro e w' ⟨rfl,rfl⟩;rw[HV.out];have hn0:=HN0.out;have HY:=zh (HT0.out.y);have HZ:=zh (HT0.out.z);have hbs:=fF;have hbi:=gW;go_wp2_with fail;have HLV:=zh (fun w'=>eM h w' hh);refine wp_region_held_drew (S:=fun w'=>w'.cell? ⟨w.heap.size,16,none⟩=some (.int .i64 (h:Int))∧w'.cell? ⟨w.heap.size,17,none⟩=some (.int .i64 n)) (by kernel_rfl) ⟨c16,c17⟩ (fun hHeld=>?_);refine zv 0 rfl ?_;refine zx 1 rfl (v:=?_) ?_ ?_;rotate_left
 ·intro w' hSw;have c1:=hSw.2;go_simp;try with_reducible rfl
 refine zv 2 rfl ?_;refine zx 3 rfl (v:=?_) ?_ ?_;rotate_left
 ·intro w' hSw;have c1:=hSw.1;go_simp;try with_reducible rfl
 refine zr 4 rfl (fun K hK=>?_);go_simp
 with_reducible refine (HLV.out _).mono ?_
 rintro e w' ⟨rfl,rfl⟩;go_wp2_with fail;refine hK.out _ _ ⟨c16,c17⟩ fun _=>?_;clear hK K
 try simp only[Act.put,zu]
 refine zv 5 rfl ?_;refine zv 6 rfl ?_;refine zd ?_ _
 go_wp2_with (first
  | (refine wpList_store_row rfl 52 _ _ rfl (w.heap.size+1+1) (sgA bQ 0 0) rfl rfl 52 _ HY.out (aV aN) rfl (dR _ _ _) ?_;generalize hw8:World.setRow w0.drew _ _=w8;have HY8:Hid (Ah w8 (w.heap.size+1+1) (sgA bQ 0 0) 52):=(by rw[←hw8];exact setRow_heap _ _ _ _ _ _ HY.out);have HZ8:Hid (Ah w8 (w.heap.size+1+1+1) (siA 0 aH aH) 48):=(by rw[←hw8];exact (setRow_other _ _ _ _ zo).trans HZ.out);have HB8:Hid (Bw w w8):=(by rw[←hw8];exact below_setRow HT0.out.b.drew zo _);clear hw8)
  | (refine wpList_store_row rfl 48 _ _ rfl (w.heap.size+1+1+1) (siA 0 aH aH) rfl rfl 48 _ HZ8.out (aL _ _ _) rfl (cO _ _ _ _ _ _ _) ?_;generalize hw9:World.setRow w8 _ _=w9;have HZ9:Hid (Ah w9 (w.heap.size+1+1+1) (siA 0 aH aH) 48):=(by rw[←hw9];exact setRow_heap _ _ _ _ _ _ HZ8.out);have HY9:Hid (Ah w9 (w.heap.size+1+1) (sgA bQ 0 0) 52):=(by rw[←hw9];exact (setRow_other _ _ _ _ zo).trans HY8.out);have HB9:Hid (Bw w w9):=(by rw[←hw9];exact below_setRow HB8.out zo _);clear hw9))
 exact bodyPost_ret (bA (P:=Tryz.prog) rfl _ _ (w.heap.size+1+1) (w.heap.size+1+1+1) 52 48 _ _ (0,0) (0,0) _ _ rfl HY9.out rfl HZ9.out Tryz.underlying52 rfl (aV aN) Tryz.underlying48 rfl (aL _ _ _)) rfl ⟨rfl,HB9.out⟩
end Go.Proofs.YtaeobegaodhpcaaGreatDoor
