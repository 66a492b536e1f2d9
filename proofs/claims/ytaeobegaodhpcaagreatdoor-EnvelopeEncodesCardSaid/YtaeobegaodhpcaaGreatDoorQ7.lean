/-
  One-time signatures: the walks of the reference's Secret, and of Climb, the program's and the reference's (condition: the table of constants reads as it is laid).
-/
import Derived.Test.YtaeobegaodhpcaaGreatDoorZip
import Derived.Test.YtaeobegaodhpcaaGreatDoorQ6
set_option maxRecDepth 100000
set_option maxHeartbeats 8000000
namespace Go.Proofs.YtaeobegaodhpcaaGreatDoor
open Go.RowKit Go.Proofs.YtaeobegaodhpcaaGreatDoor.One
theorem SQ (ps:List Part) (w:World) (hs:∀ q ∈ ps,Src w w.heap.size q.sp q.n q.cap q.b) (hnil:∀ q ∈ ps,q.sp=none→q.cap=0) (hbd:(cat ps).length≤1099511627776) (hnp:ps.length≤1099511627776) :
 Calls Tryz.prog 139 #[.slice (some ⟨w.heap.size,0,none⟩) ps.length ps.length] (w.alloc (.cells (ps.map Part.val).toArray 22)) fun e w'=>e=.returned (.agg (hvA (hfB (cat ps))))∧Below w.heap.size w w':=by
 have hba:=aA w (.cells (ps.map Part.val).toArray 22);have hsa:=aF w (.cells (ps.map Part.val).toArray 22);have hga:=heap_alloc_new w (.cells (ps.map Part.val).toArray 22);generalize World.alloc w _=w6 at *;have hp:PartsIn w6 w6.heap.size (some ⟨w.heap.size,0,none⟩) ps.length ps:=by
  refine mD (ps:=ps) hga zo ?_;intro q hq;exact ((hs q hq).below hba zl).more zo
 refine (yG _ ps.length ps.length ps w6 hp hnil hbd hnp).mono fun e w' ⟨he,hb⟩=>⟨he,hba.trans (hb.mono hba.size)⟩
theorem SO (tag:Int) (x cs:List Int) (n:Nat) (w:World) (bh:Nat) (h2:RowIn w bh 42 .u8 x) (l2:bh<w.heap.size) (hx:H16 x) (ht:0≤tag∧tag<256) (hc:Byt cs) (hn:cs.length=n) (hn2:n≤100:=by decide) :
 Calls Tryz.prog 139 #[.slice (some ⟨w.heap.size+1+1,0,none⟩) 3 3] (((w.alloc (.cells #[.int .u8 tag] 5)).alloc (.cells (cs.map (Value.int .u8)).toArray 5)).alloc (.cells #[.slice (some ⟨w.heap.size,0,none⟩) 1 1,.slice (some ⟨bh,0,none⟩) 16 16,.slice (some ⟨w.heap.size+1,0,none⟩) n n] 22)) fun e w'=>e=.returned (.agg (hvA (hfB ([tag]++x++cs))))∧Below w.heap.size w w':=by
 subst hn;have r1:=RowB.new w 5 [tag];have e0:w.alloc (.cells ([tag].map (Value.int .u8)).toArray 5)=w.alloc (.cells #[.int .u8 tag] 5):=rfl;rw[e0] at r1;generalize w.alloc (.cells #[.int .u8 tag] 5)=w1 at *;have r2:=RowB.new w1 5 cs;generalize w1.alloc (.cells (cs.map (Value.int .u8)).toArray 5)=w2 at *;have hs1:=r1.s;have hs2:=r2.s;have hb:=r1.b.trans (r2.b.mono zo);have h:=SQ [⟨some ⟨w.heap.size,0,none⟩,1,1,[tag]⟩,⟨some ⟨bh,0,none⟩,16,16,x⟩,⟨some ⟨w.heap.size+1,0,none⟩,cs.length,cs.length,cs⟩] w2 (by
  intro q hq;simp only[List.mem_cons,List.not_mem_nil,or_false] at hq;rcases hq with rfl | rfl | rfl
  ·exact bN (L:=[tag]) (r1.r.below r2.b zo) (fun y hy=>by rw[List.mem_singleton.1 hy];exact ht) zo (by simp)
  ·have:=bN (B:=w2.heap.size) (cap:=16) (h2.below hb l2) hx.2 zo (by rw[hx.1];exact Nat.le_refl _);rw[hx.1] at this;exact this
  ·have:=r2.r;rw[hs1] at this;exact bN this hc zo zl) (by
  intro q hq;simp only[List.mem_cons,List.not_mem_nil,or_false] at hq;rcases hq with rfl | rfl | rfl <;> (intro h;cases h)) (by simp only[cat,List.map_cons,List.map_nil,List.flatten_cons,List.flatten_nil,List.length_append,List.length_cons,List.length_nil];rw[hx.1];omega) (show 3≤1099511627776 by omega)
 have e:cat [⟨some ⟨w.heap.size,0,none⟩,1,1,[tag]⟩,⟨some ⟨bh,0,none⟩,16,16,x⟩,⟨some ⟨w.heap.size+1,0,none⟩,cs.length,cs.length,cs⟩]=[tag]++x++cs:=by simp[cat]
 rw[e] at h;rw[show w2.heap.size=w.heap.size+1+1 by omega] at h;exact h.mono fun e w' ⟨he,hb'⟩=>⟨he,hb.trans (hb'.mono zo)⟩
theorem rL (x:List Int) (leaf c:Int) (w:World) (hs:H16 x) :
 Calls Tryz.prog 110 #[.agg (hvA x),.int .i64 leaf,.int .i64 c] w fun e w'=>e=.returned (.agg (hvA (xB x leaf c)))∧Below w.heap.size w w':=by
 have HS:=zh hs;clear hs;have HT:=zh (Two.new w x);have HCH:=zh (SO 3 x [leaf / 256 % 256,leaf % 256,c % 256] 3 _ w.heap.size HT.out.x (by rw[HT.out.s];omega) HS.out (by decide) (fun z hz=>by
  simp only[List.mem_cons,List.not_mem_nil,or_false] at hz;rcases hz with rfl | rfl | rfl <;> omega) rfl)
 have hlist:[3]++x++[leaf / 256 % 256,leaf % 256,c % 256]=[3]++x++[lb1 leaf,lb0 leaf]++[c % 256]:=by simp[lb1,lb0]
 rw[hlist,show hfB ([3]++x++[lb1 leaf,lb0 leaf]++[c % 256])=xB x leaf c from rfl] at HCH;clear hlist;have hz0:((w.alloc (.cells (hvA x) 42)).alloc (.cells (Array.replicate 16 (Value.int .u8 0)) 42)).heap.size=w.heap.size+1+1:=by simp
 rw[hz0] at HCH;clear hz0
 go_enter Tryz.func110,Tryz.ntmps110
 go_wp2_with fail;refine HCH.out.mono ?_;rintro e w1 ⟨rfl,hb1⟩;have HZ1:Hid (Ah w1 (w.heap.size+1) (Array.replicate 16 (Value.int .u8 0)) 42):=(hb1.block _ zo).trans HT.out.z;have HBW:Hid (Below w.heap.size w w1):=HT.out.b.trans (hb1.mono zo);clear hb1 HCH HT;generalize hb:w.heap.size=b at *;have HBZ:=zh hb;clear hb
 go_wp2_with (refine wpList_store_row rfl 42 _ _ rfl (b+1) _ rfl rfl 42 _ HZ1.out (aI (dF _ _ _)) (cE (dF _ _ _)) (cM _) ?_)
 exact bodyPost_ret (results_cell_row (P:=Tryz.prog) rfl _ _ (b+1) 42 _ (0,0) _ rfl (setRow_heap _ _ _ _ _ _ HZ1.out) Tryz.underlying42 rfl (aI (dF _ _ _))) rfl ⟨rfl,by rw[HBZ.out];exact below_setRow HBW.out zo _⟩
def clN (x:List Int) (leaf c fr:Int):Nat→List Int
 | 0=>x
 | n+1=>iO (clN x leaf c fr n) leaf c (fr+n)
def dC (x:List Int) (leaf c fr to:Int):List Int:=if fr<0∨to>3 then x else clN x leaf c fr (to-fr).toNat
theorem CH {x:List Int} (h:H16 x) (leaf c fr:Int):∀ n,H16 (clN x leaf c fr n)
 | 0=>h
 | _+1=>dP _ _ _ _
theorem pA {x:List Int} (h:H16 x) (leaf c fr to:Int):H16 (dC x leaf c fr to):=by
 unfold dC;split
 ·exact h
 ·exact CH h _ _ _ _
theorem sD (x:List Int) (leaf c fr to:Int) (w:World) (hs:H16 x) (hk:KayIn w) (hk0:4<w.heap.size) :
 Calls Tryz.prog 126 #[.agg (hvA x),.int .i64 leaf,.int .i64 c,.int .i64 fr,.int .i64 to] w fun e w'=>e=.returned (.agg (hvA (dC x leaf c fr to)))∧Below w.heap.size w w':=by
 have HK:=zh hk;clear hk;have HS:=zh hs;clear hs;have HT:=zh (Two.new w x);by_cases hbad:fr<0∨to>3
 ·have HE:Hid (dC x leaf c fr to=x):=by show _=_;unfold dC;rw[if_pos hbad]
  rcases (by omega:fr<0∨(¬ fr<0∧to>3)) with h1 | ⟨h1,h2⟩
  all_goals
   first
    | (have q1:decide (fr<0)=true:=by simp;omega)
    | (have q1:decide (fr<0)=false:=by simp;omega)
   try (have q2:decide (to>3)=true:=by simp;omega)
   clear hbad
   go_enter Tryz.func126,Tryz.ntmps126
   go_wp2_with (first
    | (generalize hw0:World.alloc (World.alloc w _) _=w0;have HX0:Hid (Ah w0 w.heap.size (hvA x) 42):=(by rw[←hw0];exact HT.out.x);have HZ0:Hid (Ah w0 (w.heap.size+1) (Array.replicate 16 (Value.int .u8 0)) 42):=(by rw[←hw0];exact HT.out.z);have HB0:Hid (Below w.heap.size w w0):=(by rw[←hw0];exact HT.out.b);clear hw0 HT;refine wpList_load_row rfl 42 _ rfl w.heap.size rfl 42 _ (0,0) _ HX0.out Tryz.underlying42 rfl (aI HS.out) ?_)
    | (refine wpList_store_row rfl 42 _ _ rfl (w.heap.size+1) _ rfl rfl 42 _ HZ0.out (aI HS.out) (cE HS.out) (cM _) ?_))
   exact bodyPost_ret (results_cell_row (P:=Tryz.prog) rfl _ _ (w.heap.size+1) 42 _ (0,0) _ rfl (setRow_heap _ _ _ _ _ _ HZ0.out) Tryz.underlying42 rfl (aI HS.out)) rfl ⟨by rw[HE.out],below_setRow HB0.out zo _⟩
 ·have hf0:0≤fr:=by omega
  have ht3:to≤3:=by omega
  have q1:decide (fr<0)=false:=by simp;omega
  have q2:decide (to>3)=false:=by simp;omega
  have HE:Hid (dC x leaf c fr to=clN x leaf c fr (to-fr).toNat):=by show _=_;unfold dC;rw[if_neg hbad]
  clear hbad
  go_enter Tryz.func126,Tryz.ntmps126
  go_wp2_with fail;generalize hw0:World.alloc (World.alloc w _) _=w0;have HT0:Hid (Two w x w0):=by rw[←hw0];exact HT.out
  clear hw0 HT;generalize hb:w.heap.size=b at *;have HBZ:=zh hb;clear hb;have HX0:Hid (w0.heap[b]? = some (.cells (hvA x) 42 (0,0))):=by have h:=HT0.out.x;rw[HBZ.out] at h;exact h
  have HZ0:Hid (w0.heap[b+1]? = some (.cells (Array.replicate 16 (Value.int .u8 0)) 42 (0,0))):=by have h:=HT0.out.z;rw[HBZ.out] at h;exact h
  have HB0:Hid (Below b w w0):=by have h:=HT0.out.b;rw[HBZ.out] at h;exact h
  clear HT0
  go_loopw [11] (fun i wr=>∃ k:Nat,i=.int .i64 (fr+(k:Int))∧(fr+(k:Int)≤to∨k=0)∧Hid (RowIn wr b 42 .u8 (clN x leaf c fr k))∧Hid (wr.heap[b+1]? = some (.cells (Array.replicate 16 (Value.int .u8 0)) 42 (0,0)))∧Hid (Below b w wr)) (fun i _=>(to-intOf i).toNat)
  case atStart=>exact⟨0,by simp,Or.inr rfl,HX0.out,HZ0.out,HB0.out⟩
  case round =>
   clear HX0 HZ0 HB0;obtain⟨k,rfl,hkt,HXR,HZR,HBR⟩:=hrel;have HCX:Hid (Ah wr b (hvA (clN x leaf c fr k)) 42):=HXR.out;have hbw:b+1<wr.heap.size:=(Array.getElem?_eq_some_iff.1 HZR.out).1;have HHC:=zh (CH HS.out leaf c fr k);by_cases hlt:fr+(k:Int)<to
   ·have q3:decide (fr+(k:Int)<to)=true:=by simpa using hlt
    have p0:0≤fr+(k:Int):=by omega
    have p1:fr+(k:Int)≤3:=by omega
    have hkn:k≤3:=by omega
    have HE2:Hid (clN x leaf c fr (k+1)=iO (clN x leaf c fr k) leaf c (fr+(k:Int))):=rfl;generalize clN x leaf c fr k=y at *;have HKR:=zh (HK.out.below HBR.out (HBZ.out ▸ hk0));have hkr:4<wr.heap.size:=by have:=HBZ.out;omega
    go_wp2_with (refine wpList_load_row rfl 42 _ rfl b rfl 42 _ (0,0) _ HCX.out Tryz.underlying42 rfl (aI HHC.out) ?_)
    refine (OX y leaf c (fr+(k:Int)) wr HHC.out HKR.out hkr).mono ?_;rintro e w6 ⟨rfl,hb6⟩;have HB6:=zh hb6;clear hb6;have HXS:Hid (Ah w6 b (hvA y) 42):=(HB6.out.block b zo).trans HCX.out;have HZS:=zh ((HB6.out.block (b+1) hbw).trans HZR.out);have HSZ:Hid ((hvA y).size=(hvA (iO y leaf c (fr+(k:Int)))).size):=by show _=_;simp[hvA,HHC.out.1,(dP y leaf c (fr+(k:Int))).1]
    go_wp2_with (refine wpList_store_row rfl 42 _ _ rfl b _ rfl rfl 42 _ HXS.out (aI (dP _ _ _ _)) HSZ.out (cM _) ?_)
    have HN1:Hid (RowIn (w6.setRow b (hvA (iO y leaf c (fr+(k:Int))))) b 42 .u8 (iO y leaf c (fr+(k:Int)))):=setRow_heap _ _ _ _ _ _ HXS.out;have HN2:Hid ((w6.setRow b (hvA (iO y leaf c (fr+(k:Int))))).heap[b+1]? = some (.cells (Array.replicate 16 (Value.int .u8 0)) 42 (0,0))):=(setRow_other _ _ _ _ zo).trans HZS.out;have HN3:Hid (Below b w (w6.setRow b (hvA (iO y leaf c (fr+(k:Int)))))):=below_setRow (HBR.out.trans (HB6.out.mono zo)) zl _;generalize World.setRow w6 b _=w7 at *;have q4:fr+(k:Int)+1=fr+((k+1:Nat):Int):=by omega
    have HQ4:=zh q4;clear q4;go_roundw
    case rel=>exact⟨k+1,by rw[HQ4.out],Or.inl zo,by rw[HE2.out];exact HN1,HN2,HN3⟩
    case measure=>simp[intOf];omega
   ·have q3:decide (fr+(k:Int)<to)=false:=by simp;omega
    have HKE:Hid (dC x leaf c fr to=clN x leaf c fr k):=by
     show _=_;rw[HE.out];congr 1;rcases hkt with h | h <;> omega
    generalize clN x leaf c fr k=y at *
    go_wp2_with (first
     | (refine wpList_load_row rfl 42 _ rfl b rfl 42 _ (0,0) _ HCX.out Tryz.underlying42 rfl (aI HHC.out) ?_)
     | (refine wpList_store_row rfl 42 _ _ rfl (b+1) _ rfl rfl 42 _ HZR.out (aI HHC.out) (cE HHC.out) (cM _) ?_))
    exact bodyPost_ret (results_cell_row (P:=Tryz.prog) rfl _ _ (b+1) 42 _ (0,0) _ rfl (setRow_heap _ _ _ _ _ _ HZR.out) Tryz.underlying42 rfl (aI HHC.out)) rfl ⟨by rw[HKE.out],by rw[HBZ.out];exact below_setRow HBR.out zo _⟩
theorem tQ (x:List Int) (leaf c fr to:Int) (w:World) (hs:H16 x) :
 Calls Tryz.prog 109 #[.agg (hvA x),.int .i64 leaf,.int .i64 c,.int .i64 fr,.int .i64 to] w fun e w'=>e=.returned (.agg (hvA (dC x leaf c fr to)))∧Below w.heap.size w w':=by
 skip
 have HS:=zh hs;clear hs;have HT:=zh (Two.new w x);by_cases hbad:fr<0∨to>3
 ·have HE:Hid (dC x leaf c fr to=x):=by show _=_;unfold dC;rw[if_pos hbad]
  rcases (by omega:fr<0∨(¬ fr<0∧to>3)) with h1 | ⟨h1,h2⟩
  all_goals
   first
    | (have q1:decide (fr<0)=true:=by simp;omega)
    | (have q1:decide (fr<0)=false:=by simp;omega)
   try (have q2:decide (to>3)=true:=by simp;omega)
   clear hbad
   go_enter Tryz.func109,Tryz.ntmps109
   go_wp2_with (first
    | (generalize hw0:World.alloc (World.alloc w _) _=w0;have HX0:Hid (Ah w0 w.heap.size (hvA x) 42):=(by rw[←hw0];exact HT.out.x);have HZ0:Hid (Ah w0 (w.heap.size+1) (Array.replicate 16 (Value.int .u8 0)) 42):=(by rw[←hw0];exact HT.out.z);have HB0:Hid (Below w.heap.size w w0):=(by rw[←hw0];exact HT.out.b);clear hw0 HT;refine wpList_load_row rfl 42 _ rfl w.heap.size rfl 42 _ (0,0) _ HX0.out Tryz.underlying42 rfl (aI HS.out) ?_)
    | (refine wpList_store_row rfl 42 _ _ rfl (w.heap.size+1) _ rfl rfl 42 _ HZ0.out (aI HS.out) (cE HS.out) (cM _) ?_))
   exact bodyPost_ret (results_cell_row (P:=Tryz.prog) rfl _ _ (w.heap.size+1) 42 _ (0,0) _ rfl (setRow_heap _ _ _ _ _ _ HZ0.out) Tryz.underlying42 rfl (aI HS.out)) rfl ⟨by rw[HE.out],below_setRow HB0.out zo _⟩
 ·have hf0:0≤fr:=by omega
  have ht3:to≤3:=by omega
  have q1:decide (fr<0)=false:=by simp;omega
  have q2:decide (to>3)=false:=by simp;omega
  have HE:Hid (dC x leaf c fr to=clN x leaf c fr (to-fr).toNat):=by show _=_;unfold dC;rw[if_neg hbad]
  clear hbad
  go_enter Tryz.func109,Tryz.ntmps109
  go_wp2_with fail;generalize hw0:World.alloc (World.alloc w _) _=w0;have HT0:Hid (Two w x w0):=by rw[←hw0];exact HT.out
  clear hw0 HT;generalize hb:w.heap.size=b at *;have HBZ:=zh hb;clear hb;have HX0:Hid (w0.heap[b]? = some (.cells (hvA x) 42 (0,0))):=by have h:=HT0.out.x;rw[HBZ.out] at h;exact h
  have HZ0:Hid (w0.heap[b+1]? = some (.cells (Array.replicate 16 (Value.int .u8 0)) 42 (0,0))):=by have h:=HT0.out.z;rw[HBZ.out] at h;exact h
  have HB0:Hid (Below b w w0):=by have h:=HT0.out.b;rw[HBZ.out] at h;exact h
  clear HT0
  go_loopw [11] (fun i wr=>∃ k:Nat,i=.int .i64 (fr+(k:Int))∧(fr+(k:Int)≤to∨k=0)∧Hid (RowIn wr b 42 .u8 (clN x leaf c fr k))∧Hid (wr.heap[b+1]? = some (.cells (Array.replicate 16 (Value.int .u8 0)) 42 (0,0)))∧Hid (Below b w wr)) (fun i _=>(to-intOf i).toNat)
  case atStart=>exact⟨0,by simp,Or.inr rfl,HX0.out,HZ0.out,HB0.out⟩
  case round =>
   clear HX0 HZ0 HB0;obtain⟨k,rfl,hkt,HXR,HZR,HBR⟩:=hrel;have HCX:Hid (Ah wr b (hvA (clN x leaf c fr k)) 42):=HXR.out;have hbw:b+1<wr.heap.size:=(Array.getElem?_eq_some_iff.1 HZR.out).1;have HHC:=zh (CH HS.out leaf c fr k);by_cases hlt:fr+(k:Int)<to
   ·have q3:decide (fr+(k:Int)<to)=true:=by simpa using hlt
    have p0:0≤fr+(k:Int):=by omega
    have p1:fr+(k:Int)≤3:=by omega
    have hkn:k≤3:=by omega
    have HE2:Hid (clN x leaf c fr (k+1)=iO (clN x leaf c fr k) leaf c (fr+(k:Int))):=rfl;generalize clN x leaf c fr k=y at *;have HCH:=zh (SO 4 y [leaf / 256 % 256,leaf % 256,c % 256,fr+(k:Int)] 4 wr b HXR.out zo HHC.out (by decide) (fun z hz=>by
     simp only[List.mem_cons,List.not_mem_nil,or_false] at hz;rcases hz with rfl | rfl | rfl | rfl <;> omega) rfl)
    have hmod:(fr+(k:Int)) % 256=fr+(k:Int):=by omega
    have hlist:[4]++y++[leaf / 256 % 256,leaf % 256,c % 256,fr+(k:Int)]=[4]++y++[lb1 leaf,lb0 leaf]++[c % 256,(fr+(k:Int)) % 256]:=by rw[hmod];simp[lb1,lb0]
    clear hmod;rw[hlist,show hfB ([4]++y++[lb1 leaf,lb0 leaf]++[c % 256,(fr+(k:Int)) % 256])=iO y leaf c (fr+(k:Int)) from rfl] at HCH;clear hlist;go_wp2_with fail;refine HCH.out.mono ?_;rintro e w6 ⟨rfl,hb6⟩;have HB6:=zh hb6;clear hb6 HCH;have HXS:Hid (Ah w6 b (hvA y) 42):=(HB6.out.block b zo).trans HCX.out;have HZS:=zh ((HB6.out.block (b+1) hbw).trans HZR.out);have HSZ:Hid ((hvA y).size=(hvA (iO y leaf c (fr+(k:Int)))).size):=by show _=_;simp[hvA,HHC.out.1,(dP y leaf c (fr+(k:Int))).1]
    go_wp2_with (refine wpList_store_row rfl 42 _ _ rfl b _ rfl rfl 42 _ HXS.out (aI (dP _ _ _ _)) HSZ.out (cM _) ?_)
    have HN1:Hid (RowIn (w6.setRow b (hvA (iO y leaf c (fr+(k:Int))))) b 42 .u8 (iO y leaf c (fr+(k:Int)))):=setRow_heap _ _ _ _ _ _ HXS.out;have HN2:Hid ((w6.setRow b (hvA (iO y leaf c (fr+(k:Int))))).heap[b+1]? = some (.cells (Array.replicate 16 (Value.int .u8 0)) 42 (0,0))):=(setRow_other _ _ _ _ zo).trans HZS.out;have HN3:Hid (Below b w (w6.setRow b (hvA (iO y leaf c (fr+(k:Int)))))):=below_setRow (HBR.out.trans (HB6.out.mono zo)) zl _;generalize World.setRow w6 b _=w7 at *;have q4:fr+(k:Int)+1=fr+((k+1:Nat):Int):=by omega
    have HQ4:=zh q4;clear q4;go_roundw
    case rel=>exact⟨k+1,by rw[HQ4.out],Or.inl zo,by rw[HE2.out];exact HN1,HN2,HN3⟩
    case measure=>simp[intOf];omega
   ·have q3:decide (fr+(k:Int)<to)=false:=by simp;omega
    have HKE:Hid (dC x leaf c fr to=clN x leaf c fr k):=by
     show _=_;rw[HE.out];congr 1;rcases hkt with h | h <;> omega
    generalize clN x leaf c fr k=y at *
    go_wp2_with (first
     | (refine wpList_load_row rfl 42 _ rfl b rfl 42 _ (0,0) _ HCX.out Tryz.underlying42 rfl (aI HHC.out) ?_)
     | (refine wpList_store_row rfl 42 _ _ rfl (b+1) _ rfl rfl 42 _ HZR.out (aI HHC.out) (cE HHC.out) (cM _) ?_))
    exact bodyPost_ret (results_cell_row (P:=Tryz.prog) rfl _ _ (b+1) 42 _ (0,0) _ rfl (setRow_heap _ _ _ _ _ _ HZR.out) Tryz.underlying42 rfl (aI HHC.out)) rfl ⟨by rw[HKE.out],by rw[HBZ.out];exact below_setRow HBR.out zo _⟩
structure HvsIn (w:World) (B:Nat) (da:Option Addr) (n cap:Nat) (l:List (List Int)):Prop where
 len:l.length=n
 ok:∀ x ∈ l,H16 x
 cells:0<n→∃ b off,da=some ⟨b,off,none⟩∧b<B∧n≤cap∧∀ i,i<n→w.rangeAt b (off+i*16) ((l.getD i []).map (Value.int .u8))
theorem HvsIn.below {w w':World} {B B':Nat} {da:Option Addr} {n cap:Nat} {l:List (List Int)} (h:HvsIn w B da n cap l) (hb:Below B' w w') (hB:B≤B'):HvsIn w' B' da n cap l :=
 ⟨h.len,h.ok,fun hn=>by
  obtain⟨b,off,e,hlt,hc,hr⟩:=h.cells hn;exact⟨b,off,e,by omega,hc,fun i hi=>aB (hr i hi) hb zo⟩⟩
theorem HvsIn.at16 {w:World} {B:Nat} {da:Option Addr} {n cap:Nat} {l:List (List Int)} (h:HvsIn w B da n cap l) {i:Nat} (hi:i<n):H16 (l.getD i []):=by
 have hl:=h.len;rw[List.getD_eq_getElem?_getD,List.getElem?_eq_getElem zo];exact h.ok _ (List.getElem_mem _)
def gO (l:List (List Int)):List Value:=l.flatMap fun d=>d.map (Value.int .u8)
theorem tP (l:List (List Int)) (x:List Int):gO (l++[x])=gO l++x.map (Value.int .u8):=by simp[gO]
def OwnHv (w:World) (base:Nat) (v:Value) (l:List (List Int)):Prop:=w.ownsRow base 42 16 v l.length (gO l)∧∀ x ∈ l,H16 x
theorem OwnHv.nil (w:World) (base:Nat):OwnHv w base (.slice none 0 0) []:=⟨World.ownsRow_nil w base _ _,by simp⟩
theorem OwnHv.below {w w':World} {base:Nat} {v:Value} {l:List (List Int)} (h:OwnHv w base v l) (hb:Below w.heap.size w w'):OwnHv w' base v l:=⟨eB h.1 hb,h.2⟩
theorem OwnHv.hvs {w:World} {base:Nat} {sp:Option Addr} {n cap:Nat} {l:List (List Int)} (h:OwnHv w base (.slice sp n cap) l) (hn:l.length=n):HvsIn w w.heap.size sp n cap l:=by
 refine⟨hn,h.2,fun h0=>?_⟩;have h1:=h.1;obtain⟨_,⟨e,e0⟩ | ⟨g,cap',cur,e,_⟩⟩:=h.1
 ·omega
 ·injection e with e1 e2 e3
  subst e1;obtain⟨hg,hc,hr⟩:=oO (f:=fun d:List Int=>d.map (Value.int .u8)) h1 (fun x hx=>by rw[List.length_map,(h.2 x hx).1]) hn;refine⟨g,0,rfl,hg,hc,fun i hi=>?_⟩;exact hr i _ (by rw[List.getD_eq_getElem?_getD,List.getElem?_eq_getElem zo];rfl)
theorem pQ:(Tryz.prog.info? 42).map (fun i=>(i.zero,i.size,i.bytes))=some (some (.agg (List.replicate 16 (Value.int .u8 0)).toArray),16,16):=by kernel_rfl
theorem LX:(Tryz.prog.info? 42).map (·.size)=some 16:=by kernel_rfl
theorem cG {w:World} {ops:Array Oper} {rest:List Oper} {o:Oper} {a:Act} {Q:Exit→Act→World→Prop} (hgd:o.guard=none) (s x:Operand)
 (ho:o.op=.call { callee:=.builtin .append,args:=#[s,x],argTypes:=#[46,46] }) (base:Nat) (v:Value) (l:List (List Int)) (n:Nat) (hn:n=l.length) (hs:a.eval s=v) (hown:OwnHv w base v l)
 (g:Nat) (y:List Int) (hx:a.eval x=.slice (some ⟨g,0,none⟩) 1 1) (hy:w.rangeAt g 0 (y.map (Value.int .u8))) (hok:H16 y) (hlen:n≤1000000) (hbase:base≤w.heap.size)
 (h:∀ sp cap w',Hid (OwnHv w' base (.slice sp (n+1) cap) (l++[y]))→Hid (Below base w w')→Hid (w.grownBy w' v.ownBlock)→wpList Tryz.prog ops Q rest (a.put o.dst (.slice sp (n+1) cap)) w'):wpList Tryz.prog ops Q (o :: rest) a w:=by
 subst hn;obtain⟨i0,hi0,hz0,hz1,hz2⟩:=bF pQ;refine wpList_append_own w hgd s x _ ho base _ i0 _ 16 16 Tryz.underlying46 hi0 hz0 hz1 hz2 rfl (by decide) v l.length _ hs hown.1 ⟨g,0,none⟩ 1 1 (y.map (Value.int .u8)) hx (by rw[List.length_map,hok.1]) ?_ (jG _ _) (by unfold maxLen;omega) zo hbase ?_
 ·intro j u hj;rw[Addr.add_mid];exact hy j u hj
 ·intro v' w' h1 h2 _;obtain⟨sp,cap,rfl⟩:=aM h1;refine h sp cap w' ⟨by rw[tP,List.length_append];exact h1,fun z hz=>?_⟩ ((Below.refl base w).grown h2 hbase (bO hown.1)) h2;rcases List.mem_append.1 hz with hz | hz
  ·exact hown.2 z hz
  ·rw[List.mem_singleton.1 hz];exact hok
theorem YS:(Tryz.prog.info? 42).map (·.zero)=some (some (.agg (List.replicate 16 (Value.int .u8 0)).toArray)):=by kernel_rfl
theorem gD (w:World) (x:List Int) (hx:H16 x):(Instr.buildSlice 46 1 #[(0,.agg (hvA x))]).run Tryz.prog w=.ok (.slice (some ⟨w.heap.size,0,none⟩) 1 1) (w.alloc (.cells (hvA x) 42)):=by
 have h:(x.map (Value.int .u8)).length=16:=by rw[List.length_map,hx.1]
 have hz:=YS;have hi:=LX
 cases hie:Tryz.prog.info? 42 with
 | none=>rw[hie] at hi;cases hi
 | some ie =>
   rw[hie] at hi hz;exact rG w _ _ _ ie _ Tryz.underlying46 hie (by injection hz) (by rw[h];injection hi) zo zo
def OwnP (w:World) (base:Nat) (v:Value) (ps:List Part):Prop:=w.ownsRow base 22 1 v ps.length (ps.map Part.val)
theorem ZO:(Tryz.prog.info? 22).map (fun i=>(i.zero,i.size,i.bytes))=some (some (.slice none 0 0),1,24):=by kernel_rfl
theorem OwnP.parts {w:World} {base:Nat} {sp:Option Addr} {n cap:Nat} {ps:List Part} (h:OwnP w base (.slice sp n cap) ps) (hn:ps.length=n) (hs:∀ q ∈ ps,Src w w.heap.size q.sp q.n q.cap q.b):PartsIn w w.heap.size sp n ps:=by
 refine⟨hn,fun h0=>?_,hs⟩;obtain⟨_,⟨e,e0⟩ | ⟨g,c,cur,e,hg,h1,h2,h3,h4,h5⟩⟩:=h
 ·omega
 ·simp only[Value.slice.injEq] at e;obtain⟨e1,e2,e3⟩:=e;refine⟨g,0,e1,(Array.getElem?_eq_some_iff.1 h1).1,fun j hj=>?_⟩;rw[Nat.zero_add,cell_of_row w g j _ _ _ h1];have h6:(ps.map Part.val)[j]? = some ps[j].val:=by rw[List.getElem?_map,List.getElem?_eq_getElem hj];rfl
  rw[←h5,List.getElem?_take,if_pos zo] at h6;simpa using h6
theorem ND (w:World) (x:Value):∀ j u,[x][j]? = some u→(w.alloc (.cells #[x] 22)).cell? ((⟨w.heap.size,0,none⟩:Addr).add j)=some u:=by
 intro j u hj;rw[Addr.add_mid,Nat.zero_add,cell_of_row _ w.heap.size j _ _ (0,0) (heap_alloc_new w _)];simpa using hj
theorem jU {w:World} {ops:Array Oper} {rest:List Oper} {o:Oper} {a:Act} {Q:Exit→Act→World→Prop} (hgd:o.guard=none) (s x:Operand) (ho:o.op=.call { callee:=.builtin .append,args:=#[s,x],argTypes:=#[34,34] })
 (base:Nat) (v:Value) (ps:List Part) (hs:a.eval s=v) (hown:OwnP w base v ps) (q:Part) (hx:a.eval x=.slice (some ⟨w.heap.size,0,none⟩) 1 1)
 (hlen:ps.length≤1000000000) (hbase:base≤w.heap.size)
 (h:∀ v' w',Hid (OwnP w' base v' (ps++[q]))→Hid (Below base w w')→Hid ((w.alloc (.cells #[q.val] 22)).grownBy w' v.ownBlock)→wpList Tryz.prog ops Q rest (a.put o.dst v') w'):wpList Tryz.prog ops Q (o :: rest) a (w.alloc (.cells #[q.val] 22)):=by
 obtain⟨i0,hi0,hz0,hz1,hz2⟩:=bF ZO;refine wpList_append_own _ hgd s x _ ho base _ i0 _ 1 24 Tryz.underlying34 hi0 hz0 hz1 hz2 rfl (by decide) v ps.length _ hs (World.ownsRow.alloc hown _) ⟨w.heap.size,0,none⟩ 1 1 [q.val] hx rfl (ND w q.val) (by intro u hu;simp at hu;subst hu;rfl) (by unfold maxLen;omega) zo (by simp;omega) ?_;intro v' w' h1 h2 _;refine h v' w' ?_ ?_ h2
 ·show w'.ownsRow _ _ _ _ _ _;rw[List.map_append,List.length_append];exact h1
 ·exact ((Below.refl base w).alloc hbase _).grown h2 (by simp;omega) (bO hown)
def OF (leaf:Int) (l:List (List Int)):List Int:=hfB ([5]++[lb1 leaf,lb0 leaf]++l.flatten)
theorem gV (leaf:Int) (l:List (List Int)):H16 (OF leaf l):=jL _
def GS (eb eo:Nat) (l:List (List Int)) (i:Nat):Part:=⟨some ⟨eb,eo+i*16,none⟩,16,16,l.getD i []⟩
theorem QX (eb eo:Nat) (l:List (List Int)):cat ((List.range l.length).map (GS eb eo l))=l.flatten:=by
 unfold cat;rw[List.map_map];congr 1;apply List.ext_getElem
 ·simp
 ·intro i h1 h2;simp[GS,List.getD_eq_getElem?_getD,List.getElem?_eq_getElem h2]
theorem oW:∀ (l:List (List Int)),(∀ x ∈ l,H16 x)→l.flatten.length=16*l.length
 | [],_=>rfl
 | x :: t, h => by
   rw[List.flatten_cons,List.length_append,(h x (by simp)).1,oW t (fun y hy=>h y (by simp[hy])),List.length_cons];omega
theorem eJ {α:Type} (f:Nat→α) (k:Nat):(List.range (k+1)).map f=(List.range k).map f++[f k]:=by rw[List.range_succ,List.map_append];rfl
theorem EE {w:World} {B eb eo n cap:Nat} {l:List (List Int)} (h:HvsIn w B (some ⟨eb,eo,none⟩) n cap l) {i:Nat} (hi:i<n):Src w B (GS eb eo l i).sp (GS eb eo l i).n (GS eb eo l i).cap (GS eb eo l i).b:=by
 have h16:=h.at16 hi;obtain⟨b,off,e,hlt,hc,hr⟩:=h.cells zo;injection e with e;injection e with e1 e2;subst e1 e2
 refine⟨h16.1,h16.2,fun _=>⟨eb,eo+i*16,rfl,hlt,Nat.le_refl _,fun j hj=>?_⟩⟩;exact hr i hi j _ (fV _ _ _ _ (by rw[h16.1];exact hj))
theorem AS {w:World} {g B n:Nat} {t:TypeId} {L:List Int} (hg:RowIn w g t .u8 L) (hL:Byt L) (hlt:g<B) (hn:L.length=n):Src w B (some ⟨g,0,none⟩) n n L:=by
 subst hn;exact bN hg hL hlt zl
theorem HvsIn.place {w:World} {B:Nat} {sp:Option Addr} {n cap:Nat} {l:List (List Int)} (h:HvsIn w B sp n cap l):∃ eb eo,0<n→sp=some ⟨eb,eo,none⟩:=by
 by_cases hn:0<n
 ·obtain⟨b,off,e,_⟩:=h.cells hn;exact⟨b,off,fun _=>e⟩
 ·exact⟨0,0,fun h=>absurd h hn⟩
structure aAg (w:World) (t:List Int) (w':World):Prop where
 r1:RowIn w' w.heap.size 182 .u8 t
 r2:RowIn w' (w.heap.size+1) 5 .u8 [5]
 o:OwnP w' (w.heap.size+2) (.slice (some ⟨w.heap.size+1+1,0,none⟩) 2 2) [⟨some ⟨w.heap.size+1,0,none⟩,1,1,[5]⟩,⟨some ⟨w.heap.size,0,none⟩,2,2,t⟩]
 b:Below w.heap.size w w'
 s:w'.heap.size=w.heap.size+3
theorem FJ (w:World) (t:List Int):aAg w t (((w.alloc (.cells (t.map (Value.int .u8)).toArray 182)).alloc (.cells #[.int .u8 5] 5)).alloc (.cells #[.slice (some ⟨w.heap.size+1,0,none⟩) 1 1,.slice (some ⟨w.heap.size,0,none⟩) 2 2] 22)):=by
 have h1:=RowB.new w 182 t;generalize w.alloc (.cells (t.map (Value.int .u8)).toArray 182)=w1 at *;have h2:=RowB.new w1 5 [5];have e0:w1.alloc (.cells ([5].map (Value.int .u8)).toArray 5)=w1.alloc (.cells #[.int .u8 5] 5):=rfl;rw[e0] at h2;generalize w1.alloc (.cells #[.int .u8 5] 5)=w2 at *;have h1s:=h1.s;have h2s:=h2.s;have hb3:=aA w2 (.cells #[.slice (some ⟨w.heap.size+1,0,none⟩) 1 1,.slice (some ⟨w.heap.size,0,none⟩) 2 2] 22)
 have ho:OwnP (w2.alloc (.cells #[.slice (some ⟨w.heap.size+1,0,none⟩) 1 1,.slice (some ⟨w.heap.size,0,none⟩) 2 2] 22)) w2.heap.size (.slice (some ⟨w2.heap.size,0,none⟩) 2 2) [⟨some ⟨w.heap.size+1,0,none⟩,1,1,[5]⟩,⟨some ⟨w.heap.size,0,none⟩,2,2,t⟩] :=
  ⟨by simp,.inr ⟨w2.heap.size,2,_,rfl,Nat.le_refl _,heap_alloc_new w2 _,Nat.le_refl _,by unfold maxLen;simp,rfl,by simp[Part.val]⟩⟩
 have hs3:=aF w2 (.cells #[.slice (some ⟨w.heap.size+1,0,none⟩) 1 1,.slice (some ⟨w.heap.size,0,none⟩) 2 2] 22);generalize w2.alloc (.cells #[.slice (some ⟨w.heap.size+1,0,none⟩) 1 1,.slice (some ⟨w.heap.size,0,none⟩) 2 2] 22)=w3 at *;refine⟨(h1.r.below h2.b zo).below hb3 zo,by have:=h2.r;rw[h1s] at this;exact this.below hb3 zo,?_,h1.b.trans ((h2.b.mono zo).trans (hb3.mono zo)),by omega⟩;rw[show w2.heap.size=w.heap.size+1+1 by omega] at ho;exact ho
def OC (q:Nat) (leaf:Int):List Part:=[⟨some ⟨q+1,0,none⟩,1,1,[5]⟩,⟨some ⟨q,0,none⟩,2,2,[lb1 leaf,lb0 leaf]⟩]
theorem sC (leaf:Int) (sp:Option Addr) (n cap:Nat) (l:List (List Int)) (w:World) (hl:HvsIn w w.heap.size sp n cap l) (hn:n≤1000) (hk:KayIn w) (hk0:4<w.heap.size) :
 Calls Tryz.prog 161 #[.int .i64 leaf,.slice sp n cap] w fun e w'=>e=.returned (.agg (hvA (OF leaf l)))∧Below w.heap.size w w':=by
 have HK:=zh hk;have HLV:=zh hl;obtain⟨eb,eo,hpl⟩:=hl.place;have HPL:=zh hpl;clear hk hl hpl;have HN:=zh (heap_alloc_new w (.cells (Array.replicate 16 (Value.int .u8 0)) 42));have HB:=zh (aA w (.cells (Array.replicate 16 (Value.int .u8 0)) 42));have HS:=zh (aF w (.cells (Array.replicate 16 (Value.int .u8 0)) 42))
 go_enter Tryz.func161,Tryz.ntmps161
 go_wp2_with fail;generalize hw0:World.alloc w _=w0;have HZ0:Hid (Ah w0 w.heap.size (Array.replicate 16 (Value.int .u8 0)) 42):=by rw[←hw0];exact HN.out
 have HB0:Hid (Below w.heap.size w w0):=by rw[←hw0];exact HB.out
 have HS0:Hid (w0.heap.size=w.heap.size+1):=by rw[←hw0];exact HS.out
 clear hw0 HN HB HS;generalize hb:w.heap.size=b at *;have HBZ:=zh hb;clear hb;refine (jH leaf w0).mono ?_;rintro e w1 ⟨rfl,hb1⟩;have HB1:=zh hb1;clear hb1;have hz0:b+1≤w0.heap.size:=Nat.le_of_eq HS0.out.symm;have hz1:b+1≤w1.heap.size:=by have h1:=HB1.out.size;omega
 have HN:=zh (FJ w1 [lb1 leaf,lb0 leaf]);go_wp2_with fail;generalize hw4:World.alloc (World.alloc (World.alloc w1 _) _) _=w4;have H4:Hid (aAg w1 [lb1 leaf,lb0 leaf] w4):=by rw[←hw4];exact HN.out
 clear hw4 HN;generalize hq:w1.heap.size=q at *;have HQ:=zh hq;clear hq;have HBE:Hid (Below b w w4):=by have h:=H4.out.b;exact HB0.out.trans ((HB1.out.mono zo).trans (h.mono (by have:=HQ.out;omega)))
 have hbq:b<q:=by omega
 have HZ4:Hid (w4.heap[b]? = some (.cells (Array.replicate 16 (Value.int .u8 0)) 42 (0,0))):=by
  have h:=H4.out.b;exact (h.block b (by have:=HQ.out;omega)).trans ((HB1.out.block b zo).trans HZ0.out)
 have HR1:Hid (RowIn w4 q 182 .u8 [lb1 leaf,lb0 leaf]):=by rw[←HQ.out];exact H4.out.r1
 have HR2:Hid (RowIn w4 (q+1) 5 .u8 [5]):=by rw[←HQ.out];exact H4.out.r2
 have HO:Hid (OwnP w4 (q+2) (.slice (some ⟨q+1+1,0,none⟩) 2 2) (OC q leaf)):=by rw[←HQ.out];exact H4.out.o
 have hz4:q+2≤w4.heap.size:=by have:=H4.out.s;have:=HQ.out;omega
 clear HB1 HB0 HZ0 HS0 hz0 hz1 H4 HQ;have HLW:=zh (HLV.out.below HBE.out zl)
 go_loopw [6,15] (fun v i wr=>∃ k:Nat,k≤n∧i=.int .i64 k∧Hid (OwnP wr (q+2) v (OC q leaf++(List.range k).map (GS eb eo l)))∧Hid (Below (q+2) w4 wr)) (fun _ i _=>n-(intOf i).toNat)
 case atStart=>exact⟨0,Nat.zero_le _,rfl,HO.out,Below.refl _ _⟩
 case round =>
  clear HO
  rename_i v _
  obtain⟨k,hkn,rfl,HOW,HBR⟩:=hrel;have hbr:=HBR.out.size;have hszq:q+2≤wr.heap.size:=by omega
  clear hbr;by_cases hlt:k<n
  ·obtain rfl:=HPL.out zo;have hd:decide ((k:Int)<(n:Int))=true:=by simp;omega
   have p1:(0:Int)≤(k:Int):=by omega
   have p2:(k:Int)<(n:Int):=by omega
   have HSN:=zh (eJ (GS eb eo l) k);have HLN:Hid ((OC q leaf++(List.range k).map (GS eb eo l)).length≤1000000000):=by
    show _≤_;simp only[OC,List.length_append,List.length_map,List.length_range,List.length_cons,List.length_nil];omega
   go_wp2_with (at_builtin;refine jU rfl (.tmp 18) (.tmp 23) rfl (q+2) _ _ rfl HOW.out (GS eb eo l k) rfl HLN.out hszq ?_;intro v' w' HO' HB' HG')
   go_roundw
   case rel=>exact⟨k+1,by omega,by go_num,by rw[HSN.out,←List.append_assoc];exact HO',HBR.out.trans HB'.out⟩
   case measure=>simp[intOf];omega
  ·obtain rfl:k=n:=by omega
   have hd:decide ((k:Int)<(k:Int))=false:=by simp
   obtain⟨sp',cap',rfl⟩:=aM HOW.out;have HLK:Hid ((OC q leaf++(List.range k).map (GS eb eo l)).length=k+2):=by
    show _=_;simp only[OC,List.length_append,List.length_map,List.length_range,List.length_cons,List.length_nil];omega
   have HKK:Hid (KayIn wr):=HK.out.below (HBE.out.trans (HBR.out.mono zo)) hk0;have HCT:Hid (cat (OC q leaf++(List.range k).map (GS eb eo l))=[5]++[lb1 leaf,lb0 leaf]++l.flatten):=by
    show _=_;have h:=QX eb eo l;rw[HLV.out.len] at h;rw[←h];simp[cat,OC]
   have HPS:Hid (PartsIn wr wr.heap.size sp' (k+2) (OC q leaf++(List.range k).map (GS eb eo l))):=by
    have ho:=HOW.out;rw[HLK.out] at ho;refine ho.parts HLK.out ?_;intro y hy;rcases List.mem_append.1 hy with hy | hy
    ·simp only[OC,List.mem_cons,List.not_mem_nil,or_false] at hy;rcases hy with rfl | rfl
     ·exact AS (HR2.out.below HBR.out zo) (fun z hz=>by rw[List.mem_singleton.1 hz];omega) zo rfl
     ·exact AS (HR1.out.below HBR.out zo) (lY _ _) zo rfl
    ·obtain⟨i,hi,rfl⟩:=List.mem_map.1 hy;have hi2:i<k:=List.mem_range.1 hi;obtain rfl:=HPL.out zo;exact (EE (HLW.out.below HBR.out zo) hi2).more zo
   have HBD:Hid (([5]++[lb1 leaf,lb0 leaf]++l.flatten).length≤1099511627776):=by
    show _≤_;simp only[List.length_append,oW l HLV.out.ok,HLV.out.len,List.length_cons,List.length_nil];omega
   have HCH:=zh (EW sp' (k+2) cap' _ wr HPS.out HKK.out zo (by rw[HCT.out];exact HBD.out) zo);rw[HCT.out,HLK.out] at *;have HCH2:Hid (Calls Tryz.prog 157 #[.slice sp' (k+2) cap'] wr fun e w'=>e=.returned (.agg (hvA (OF leaf l)))∧Below wr.heap.size wr w'):=HCH.out;clear HCH HPS HCT HOW HBD;have HZR:Hid (Ah wr b (Array.replicate 16 (Value.int .u8 0)) 42):=(HBR.out.block b zo).trans HZ4.out;have HBW:Hid (Below b w wr):=HBE.out.trans (HBR.out.mono zo);go_wp2_with fail;refine HCH2.out.mono ?_;rintro e w6 ⟨rfl,hb6⟩;have HZ6:Hid (Ah w6 b (Array.replicate 16 (Value.int .u8 0)) 42):=(hb6.block b zo).trans HZR.out;have HB6:Hid (Below b w w6):=HBW.out.trans (hb6.mono zo);clear hb6
   go_wp2_with (refine wpList_store_row rfl 42 _ _ rfl b _ rfl rfl 42 _ HZ6.out (aI (gV _ _)) (cE (gV _ _)) (cM _) ?_)
   exact bodyPost_ret (results_cell_row (P:=Tryz.prog) rfl _ _ b 42 _ (0,0) _ rfl (setRow_heap _ _ _ _ _ _ HZ6.out) Tryz.underlying42 rfl (aI (gV _ _))) rfl ⟨rfl,by rw[HBZ.out];exact below_setRow HB6.out zl _⟩
def CopyIn (w:World) (q:Part):Prop:=∃ g cur,q.sp=some ⟨g,0,none⟩∧w.heap[g]? = some (.cells cur 5 (0,0))∧q.b.length=q.n∧q.n≤q.cap∧Byt q.b∧cur.toList.take q.n=q.b.map (Value.int .u8)
theorem CopyIn.src {w:World} {q:Part} (h:CopyIn w q):Src w w.heap.size q.sp q.n q.cap q.b:=by
 obtain⟨g,cur,e,hg,hl,hc,hb,ht⟩:=h;refine⟨hl,hb,fun hn=>⟨g,0,e,(Array.getElem?_eq_some_iff.1 hg).1,hc,fun j hj=>?_⟩⟩;rw[Nat.zero_add,cell_of_row w g j cur _ _ hg];have h1:=fV q.b (Value.int .u8) j 0 zo;rw[←ht,List.getElem?_take,if_pos hj] at h1;simpa using h1
theorem CopyIn.below {w w':World} {q:Part} (h:CopyIn w q) (hb:Below w.heap.size w w'):CopyIn w' q:=by
 obtain⟨g,cur,e,hg,h⟩:=h;exact⟨g,cur,e,(hb.block g (Array.getElem?_eq_some_iff.1 hg).1).trans hg,h⟩
theorem CopyIn.kept {w w':World} {q:Part} {base:Nat} {v:Value} {ps:List Part} {o:Obj} (h:CopyIn w q) (hp:OwnP w base v ps) (hg:(w.alloc o).grownBy w' v.ownBlock):CopyIn w' q:=by
 obtain⟨g,cur,e,hc,h⟩:=h;have hlt:=(Array.getElem?_eq_some_iff.1 hc).1;refine⟨g,cur,e,(hg.block g (by rw[World.size_alloc];omega) (fun ek=>?_)).trans ((heap_alloc_old w o hlt).trans hc),h⟩;obtain⟨_,⟨rfl,_⟩ | ⟨g2,cap,cur2,rfl,_,hg2,_⟩⟩:=hp
 ·simp[Value.ownBlock] at ek
 ·have e2:g=g2:=by simpa [Value.ownBlock] using ek
  subst e2;rw[hc] at hg2;injection hg2 with e3
  simp at e3
theorem CopyIn.own {w:World} {base:Nat} {v:Value} {l:List Int} (h:w.ownsRow base 5 1 v l.length (l.map (Value.int .u8))) (hb:Byt l) (hn:0<l.length):∃ sp cap,v=.slice sp l.length cap∧CopyIn w ⟨sp,l.length,cap,l⟩:=by
 obtain⟨_,⟨_,h0⟩ | ⟨g,cap,cur,rfl,_,hg,hle,_,hsz,htk⟩⟩:=h
 ·omega
 ·exact⟨_,cap,rfl,g,cur,rfl,hg,rfl,hle,hb,by rw[Nat.mul_one] at htk;exact htk⟩
structure Two3 (w:World) (t:List Int) (w':World):Prop where
 r1:RowIn w' w.heap.size 5 .u8 t
 o:OwnP w' (w.heap.size+1) (.slice (some ⟨w.heap.size+1,0,none⟩) 1 1) [⟨some ⟨w.heap.size,0,none⟩,3,3,t⟩]
 b:Below w.heap.size w w'
 s:w'.heap.size=w.heap.size+2
theorem OS (w:World) (t:List Int):Two3 w t ((w.alloc (.cells (t.map (Value.int .u8)).toArray 5)).alloc (.cells #[.slice (some ⟨w.heap.size,0,none⟩) 3 3] 22)):=by
 have h1:=RowB.new w 5 t;generalize w.alloc (.cells (t.map (Value.int .u8)).toArray 5)=w1 at *;have h1s:=h1.s;have hb3:=aA w1 (.cells #[.slice (some ⟨w.heap.size,0,none⟩) 3 3] 22)
 have ho:OwnP (w1.alloc (.cells #[.slice (some ⟨w.heap.size,0,none⟩) 3 3] 22)) w1.heap.size (.slice (some ⟨w1.heap.size,0,none⟩) 1 1) [⟨some ⟨w.heap.size,0,none⟩,3,3,t⟩] :=
  ⟨by simp,.inr ⟨w1.heap.size,1,_,rfl,Nat.le_refl _,heap_alloc_new w1 _,Nat.le_refl _,by unfold maxLen;simp,rfl,by simp[Part.val]⟩⟩
 have hs3:=aF w1 (.cells #[.slice (some ⟨w.heap.size,0,none⟩) 3 3] 22);generalize w1.alloc (.cells #[.slice (some ⟨w.heap.size,0,none⟩) 3 3] 22)=w3 at *;refine⟨h1.r.below hb3 zo,?_,h1.b.trans (hb3.mono zo),by omega⟩;rw[show w1.heap.size=w.heap.size+1 by omega] at ho;exact ho
theorem rcat (t:List Int) (q:Nat) (cs:List Part) (l:List (List Int)) (h:cs.map Part.b=l):cat ([⟨some ⟨q,0,none⟩,3,3,t⟩]++cs)=t++l.flatten:=by
 unfold cat;rw[List.map_append,List.flatten_append,h];simp
def qH (q:Nat) (leaf:Int):List Part:=[⟨some ⟨q,0,none⟩,3,3,[5,leaf / 256 % 256,leaf % 256]⟩]
theorem yM (leaf:Int) (sp:Option Addr) (n cap:Nat) (l:List (List Int)) (w:World) (hl:HvsIn w w.heap.size sp n cap l) (hn:n≤1000) :
 Calls Tryz.prog 140 #[.int .i64 leaf,.slice sp n cap] w fun e w'=>e=.returned (.agg (hvA (OF leaf l)))∧Below w.heap.size w w':=by
 have HLV:=zh hl;obtain⟨eb,eo,hpl⟩:=hl.place;have HPL:=zh hpl;clear hl hpl;have HN:=zh (heap_alloc_new w (.cells (Array.replicate 16 (Value.int .u8 0)) 42));have HB:=zh (aA w (.cells (Array.replicate 16 (Value.int .u8 0)) 42));have HS:=zh (aF w (.cells (Array.replicate 16 (Value.int .u8 0)) 42));have HTR:=zh (OS (w.alloc (.cells (Array.replicate 16 (Value.int .u8 0)) 42)) [5,leaf / 256 % 256,leaf % 256]);have HRB:=zh (fun w:World=>(show (Instr.buildSlice 22 0 #[]).run Tryz.prog w=.ok (.slice (some ⟨w.heap.size,0,none⟩) 0 0) (w.alloc (.cells #[] 5)) by kernel_rfl))
 go_enter Tryz.func140,Tryz.ntmps140
 go_wp2_with fail;generalize hw4:World.alloc (World.alloc (World.alloc w _) _) _=w4;have H4:Hid (Two3 (w.alloc (.cells (Array.replicate 16 (Value.int .u8 0)) 42)) [5,leaf / 256 % 256,leaf % 256] w4):=by
  rw[←hw4];have h:=HTR.out;rw[World.size_alloc] at h;exact h
 clear hw4 HTR;generalize hw0:World.alloc w _=w0 at *;generalize hb:w.heap.size=b at *;have HBZ:=zh hb;clear hb;have hsz0:w0.heap.size=b+1:=HS.out;have HBE:Hid (Below b w w4):=by have h:=H4.out.b;exact HB.out.trans (h.mono zo)
 have HZ4:Hid (w4.heap[b]? = some (.cells (Array.replicate 16 (Value.int .u8 0)) 42 (0,0))):=by
  have h:=H4.out.b;exact (h.block b zo).trans HN.out
 have HR1:Hid (RowIn w4 (b+1) 5 .u8 [5,leaf / 256 % 256,leaf % 256]):=by rw[←hsz0];exact H4.out.r1
 have HO:Hid (OwnP w4 (b+2) (.slice (some ⟨b+1+1,0,none⟩) 1 1) (qH (b+1) leaf)):=by have h:=H4.out.o;rw[hsz0] at h;exact h
 have hz4:b+2≤w4.heap.size:=by have:=H4.out.s;omega
 clear HB HN HS hw0 H4 hsz0;clear w0;have HLW:=zh (HLV.out.below HBE.out zl)
 go_loopw [5,6] (fun v i wr=>∃ (k:Nat) (cs:List Part),k≤n∧i=.int .i64 k∧Hid (cs.map Part.b=l.take k)∧Hid (OwnP wr (b+2) v (qH (b+1) leaf++cs))∧Hid (∀ q ∈ cs,CopyIn wr q)∧Hid (Below (b+2) w4 wr)) (fun _ i _=>n-(intOf i).toNat)
 case atStart=>exact⟨0,[],Nat.zero_le _,rfl,rfl,HO.out,by intro q hq;simp at hq,Below.refl _ _⟩
 case round =>
  clear HO
  rename_i v _
  obtain⟨k,cs,hkn,rfl,HCS,HOW,HCP,HBR⟩:=hrel;have hbr:=HBR.out.size;have hszq:b+2≤wr.heap.size:=by omega
  clear hbr;have HCL:Hid (cs.length=k):=by
   show _=_;have h:=congrArg List.length HCS.out;have h2:=HLV.out.len;rw[List.length_map,List.length_take] at h;omega
  by_cases hlt:k<n
  ·obtain rfl:=HPL.out zo;have hd:decide ((k:Int)<(n:Int))=true:=by simp;omega
   have p1:(0:Int)≤(k:Int):=by omega
   have p2:(k:Int)<(n:Int):=by omega
   have HES:Hid (Src wr (b+2) (some ⟨eb,eo+k*16,none⟩) 16 16 (l.getD k [])):=EE (HLW.out.below HBR.out zo) hlt;have H16:=zh (HLV.out.at16 hlt);have HTK:Hid (l.take (k+1)=l.take k++[l.getD k []]):=by
    show _=_;rw[List.take_succ_eq_append_getElem (by have:=HLV.out.len;omega),List.getD_eq_getElem?_getD,List.getElem?_eq_getElem (by have:=HLV.out.len;omega)];rfl
   generalize l.getD k []=y at *;have HYL:=zh H16.out.1;have HLN:Hid ((qH (b+1) leaf++cs).length≤1000000000):=by
    show _≤_;have:=HCL.out;simp only[qH,List.length_append,List.length_cons,List.length_nil];omega
   go_wp2_with (first
    | (refine dZ rfl 22 5 rfl HRB.out ?_;intro v1 w1 hv1 hw1;have hb1:Below wr.heap.size wr w1:=(by rw[hw1.out];exact aA _ _);have HO1:Hid (w1.ownsRow wr.heap.size 5 1 v1 0 []):=(by rw[hv1.out,hw1.out];exact World.ownsRow_made wr #[] 0 zl (by unfold maxLen;omega) rfl);have hs1:=hb1.size;have HS1:=zh (HES.out.below hb1 zo);have HB1:=zh hb1;clear hv1 hw1 hb1)
    | (at_builtin;refine eA rfl (.tmp 21) (.tmp 25) 22 5 rfl Tryz.underlying22 Tryz.info5a wr.heap.size _ [] rfl HO1.out (some ⟨eb,eo+k*16,none⟩) 16 (b+2) y (by rw[HYL.out];rfl) (by rw[HYL.out];exact HS1.out) (fun h=>by cases h) (by rw[HYL.out];simp) hs1 ?_;intro v2 w2 hown2 hg2 hx2;clear hx2;have hb2:=HB1.out.grown hg2 hs1 (dQ HO1.out);have hown3:w2.ownsRow wr.heap.size 5 1 v2 y.length (y.map (Value.int .u8)):=hown2.out;obtain⟨sp2,cap2,rfl,hcp2⟩:=CopyIn.own hown3 H16.out.2 (by rw[HYL.out];decide);have HO2:Hid (OwnP w2 (b+2) _ (qH (b+1) leaf++cs)):=eB HOW.out hb2;have hs2:=hb2.size;have hsz2:b+2≤w2.heap.size:=(by omega);have HCP2:=zh hcp2;have HB2:=zh hb2;clear hown2 hown3 hcp2 hg2 hb2 hs2 hs1)
    | (at_builtin;refine jU rfl (.tmp 20) (.tmp 27) rfl (b+2) _ _ rfl HO2.out ⟨sp2,y.length,cap2,y⟩ rfl HLN.out hsz2 ?_;intro v' w' HO' HB' HG'))
   go_roundw
   case rel =>
    refine⟨k+1,cs++[⟨sp2,y.length,cap2,y⟩],by omega,by go_num,?_,by rw[←List.append_assoc];exact HO',?_,HBR.out.trans ((HB2.out.mono zo).trans HB'.out)⟩
    ·show _=_;rw[HTK.out,List.map_append,HCS.out];rfl
    ·intro q hq;rcases List.mem_append.1 hq with hq | hq
     ·exact ((HCP.out q hq).below HB2.out).kept HO2.out HG'.out
     ·rw[List.mem_singleton.1 hq];exact HCP2.out.kept HO2.out HG'.out
   case measure=>simp[intOf];omega
  ·obtain rfl:k=n:=by omega
   have hd:decide ((k:Int)<(k:Int))=false:=by simp
   obtain⟨sp',cap',rfl⟩:=aM HOW.out;have HLK:Hid ((qH (b+1) leaf++cs).length=k+1):=by
    show _=_;have:=HCL.out;simp only[qH,List.length_append,List.length_cons,List.length_nil];omega
   have HCT:Hid (cat (qH (b+1) leaf++cs)=[5,leaf / 256 % 256,leaf % 256]++l.flatten):=by
    refine rcat _ _ _ _ ?_;rw[HCS.out,List.take_of_length_le (by have:=HLV.out.len;omega)]
   have HPS:Hid (PartsIn wr wr.heap.size sp' (k+1) (qH (b+1) leaf++cs)):=by
    have ho:=HOW.out;rw[HLK.out] at ho;refine ho.parts HLK.out ?_;intro y hy;rcases List.mem_append.1 hy with hy | hy
    ·rw[qH,List.mem_singleton] at hy;subst hy;exact AS (HR1.out.below HBR.out zo) (fun z hz=>by
      simp only[List.mem_cons,List.not_mem_nil,or_false] at hz;rcases hz with rfl | rfl | rfl <;> omega) zo rfl
    ·exact (HCP.out y hy).src
   have HNL:Hid (∀ q ∈ qH (b+1) leaf++cs,q.sp=none→q.cap=0):=by
    intro q hq hn;rcases List.mem_append.1 hq with hq | hq
    ·rw[qH,List.mem_singleton] at hq;subst hq;cases hn
    ·obtain⟨g,cur,e,_⟩:=HCP.out q hq;rw[e] at hn;cases hn
   have HBD:Hid (([5,leaf / 256 % 256,leaf % 256]++l.flatten).length≤1099511627776):=by
    show _≤_;simp only[List.length_append,oW l HLV.out.ok,HLV.out.len,List.length_cons,List.length_nil];omega
   have HCH:=zh (yG sp' (k+1) cap' _ wr HPS.out HNL.out (by rw[HCT.out];exact HBD.out) zo);rw[HCT.out,HLK.out] at *;have HCH2:Hid (Calls Tryz.prog 139 #[.slice sp' (k+1) cap'] wr fun e w'=>e=.returned (.agg (hvA (OF leaf l)))∧Below wr.heap.size wr w'):=HCH.out;clear HCH HPS HCT HOW HBD HNL;have HZR:Hid (Ah wr b (Array.replicate 16 (Value.int .u8 0)) 42):=(HBR.out.block b zo).trans HZ4.out;have HBW:Hid (Below b w wr):=HBE.out.trans (HBR.out.mono zo);go_wp2_with fail;refine HCH2.out.mono ?_;rintro e w6 ⟨rfl,hb6⟩;have HZ6:Hid (Ah w6 b (Array.replicate 16 (Value.int .u8 0)) 42):=(hb6.block b zo).trans HZR.out;have HB6:Hid (Below b w w6):=HBW.out.trans (hb6.mono zo);clear hb6
   go_wp2_with (refine wpList_store_row rfl 42 _ _ rfl b _ rfl rfl 42 _ HZ6.out (aI (gV _ _)) (cE (gV _ _)) (cM _) ?_)
   exact bodyPost_ret (results_cell_row (P:=Tryz.prog) rfl _ _ b 42 _ (0,0) _ rfl (setRow_heap _ _ _ _ _ _ HZ6.out) Tryz.underlying42 rfl (aI (gV _ _))) rfl ⟨rfl,by rw[HBZ.out];exact below_setRow HB6.out zl _⟩
end Go.Proofs.YtaeobegaodhpcaaGreatDoor
