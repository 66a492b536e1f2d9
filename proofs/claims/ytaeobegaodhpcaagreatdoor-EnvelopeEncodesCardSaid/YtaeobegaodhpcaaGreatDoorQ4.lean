/-
  One-time signatures: the walk of Digits (condition: a digest of 32 bytes).
-/
import Derived.Test.YtaeobegaodhpcaaGreatDoorZip
import Derived.Test.YtaeobegaodhpcaaGreatDoorQ3
import Derived.Deep.RegionHeld3
import Derived.IntWalk
set_option maxRecDepth 100000
set_option maxHeartbeats 8000000
namespace Go.Proofs.YtaeobegaodhpcaaGreatDoor
open Go.RowKit Go.Shelf Go.Proofs.YtaeobegaodhpcaaGreatDoor.One
attribute [local go_sem] Oper.semAt_some
theorem pY (sp:Option Addr) (n cap:Nat) (w:World) :
 Calls Tryz.prog 153 #[.slice sp n cap] w fun e w'=>e=.returned (.func (.func 173) #[] #[.pointer (some ⟨w.heap.size,0,none⟩)])∧w'=w.alloc (.cells #[.slice sp n cap] 22):=by
 go_enter Tryz.func153,Tryz.ntmps153
 go_wp2_with fail;go_ret;exact⟨rfl,rfl⟩
theorem EO {w w':World} {g:Nat} (h:∀ k,k<w.heap.size→k≠g→w'.heap[k]? = w.heap[k]?) (k:Nat) (h1:k<w.heap.size) (h2:k≠g):w'.cell? ⟨k,0,none⟩=w.cell? ⟨k,0,none⟩:=World.cell?_of_block (a:=⟨k,0,none⟩) (h k h1 h2)
theorem LQ {ba bb c:Nat} (h1:ba≠c) (h2:bb≠c) (X:World) (v:Value):Keep2 ba bb X (X.setCell ⟨c,0,none⟩ v) :=
 ⟨by show _≤(Array.modify _ _ _).size;rw[Array.size_modify];exact Nat.le_refl _,Below.heap_setCell X ⟨c,0,none⟩ v ba h1,Below.heap_setCell X ⟨c,0,none⟩ v bb h2⟩
def UC (l:List Int):Int:=l.foldl (fun s x=>wrap64 (s+wrap64 (3-x))) 0
theorem xR (l:List Int) (x:Int):UC (l++[x])=wrap64 (UC l+wrap64 (3-x)):=by simp[UC,List.foldl_append]
theorem xF {x:Int} (h1 : -9223372036854775808≤x) (h2:x≤9223372036854775807):wrap64 x=x:=by unfold wrap64;omega
theorem JK {l:List Int} (h:∀ y ∈ l,0≤y∧y≤3) (hl:l.length≤1000):UC l=nF l:=by
 obtain⟨k,hk⟩:∃ k,k=l.length:=⟨_,rfl⟩
 induction k generalizing l with
 | zero=>rw[List.eq_nil_of_length_eq_zero hk.symm];rfl
 | succ k ih =>
   have hne:l≠[]:=by intro e;subst e;simp at hk
   have e:=(List.dropLast_concat_getLast hne).symm;have hlen:l.dropLast.length=k:=by rw[List.length_dropLast];omega
   have hb:=h _ (List.getLast_mem hne);generalize l.getLast hne=x at *;generalize l.dropLast=t at *;subst e;have ht:∀ y ∈ t,0≤y∧y≤3:=fun y hy=>h y (by simp[hy]);have hr:=oR ht;rw[xR,ih ht zo hlen.symm,zA,xF (x:=3-x) zo zo,xF zo zo];omega
structure DigN (w:World) (b p:Nat) (pre:List Int) (W:World):Prop where
 app:AppN w p (b+1) (b+1) 68 [] pre W
 sum:Boxed W (p+1) 3 (.int .i64 (UC pre))
 big:p+3≤W.heap.size
theorem RB (w:World) (b p B:Nat) (h1:b+1≤w.heap.size) (h2:b+1≤B) (h3:w.heap.size≤p) (h4:w.heap.size≤B):OwnFrom B (DigN w b p):=fun pre X Y row h hg hrow =>
 ⟨ET w p (b+1) (b+1) 68 [] B h1 h2 h3 h4 pre X Y row h.app hg hrow,(boxed_own (p+1) 3 (fun pre:List Int=>.int .i64 (UC pre))).from B pre X Y row h.sum hg hrow,Nat.le_trans h.big hg.size⟩
def aAa (d:List Int) (b p:Nat) (x:Int):Act:={ tmps:=#[.agg (dgA d),.pointer (some ⟨b,0,none⟩),.slice none 0 0,.pointer (some ⟨p,0,none⟩),.pointer (some ⟨p+1,0,none⟩),.int .i64 x,.slice (some ⟨b+1,0,none⟩) 0 68,.slice (some ⟨b,0,none⟩) 16 32,.func (.func 173) #[] #[.pointer (some ⟨p+2,0,none⟩)],.int .i64 x,undef,undef,undef,undef,undef,undef,undef,undef,undef,undef,undef,undef,undef,undef],defers:=[] }
theorem uE (d:List Int) (hd:D32 d) (w:World) :
 Calls Tryz.prog 125 #[.agg (dgA d)] w fun e w'=>∃ sp cap,e=.returned (.slice sp 68 cap)∧OwnN w' w.heap.size (.slice sp 68 cap) (digs d)∧Below w.heap.size w w':=by
 have HD:=zh hd;clear hd;have HN:=zh (heap_alloc_new w (.cells (dgA d) 77));have HB:=zh ((Below.refl w.heap.size w).alloc zl (.cells (dgA d) 77));have HZ:=zh (World.size_alloc w (.cells (dgA d) 77));refine (callsIn_wide (n:=12)).1 ?_;refine callsIn_of_wp_marks Tryz.func125 rfl trivial ?_ rfl;simp only[Tryz.ntmps125,List.size_toArray,List.length_cons,List.length_nil,Nat.reduceAdd,Nat.reduceSub,Array.replicate_succ,Array.replicate_zero,List.push_toArray,List.append_toArray,List.nil_append,List.cons_append];obtain⟨i0,hi0,hz0,hz1,hz2⟩:=bF DX;have HI0:=zh hi0;have HZ0:=zh hz0;have HZ1:=zh hz1;have HZ2:=zh hz2;clear hi0 hz0 hz1 hz2;generalize hb:w.heap.size=b at *;have HBZ:=zh hb;clear hb
 gi_wp2_with (gi_at_make;generalize hw0:World.alloc w _=w0;have HD0:=zh (show w0.heap[b]? = some (.cells (dgA d) 77 (0,0)) by rw[←hw0];exact HN.out);have HB0:=zh (show Below b w w0 by rw[←hw0];exact HB.out);have HS0:=zh (show w0.heap.size=b+1 by rw[←hw0];exact HZ.out);clear hw0 HN HB HZ;have hs0:b+1≤w0.heap.size:=Nat.le_of_eq HS0.out.symm;refine wpListIn_make_own _ rfl _ _ 141 rfl (b+1) 3 i0 (.int .i64 0) 1 Tryz.underlying141 HI0.out HZ0.out HZ1.out .i64 .i64 68 68 rfl rfl rfl (by rw[HZ2.out];decide) (by unfold maxLen;decide) hs0 ?_;intro w1 HO1 HG1)
 simp only[HS0.out,HBZ.out];have hz1:b+2≤w1.heap.size:=by
  obtain⟨_,h | ⟨g,cap,cur,e,hg,h1,_⟩⟩:=HO1
  ·cases h.1
  ·have:=(Array.getElem?_eq_some_iff.1 h1).1;have e2:g=w0.heap.size:=by simp only[Value.slice.injEq,Option.some.injEq,Addr.mk.injEq] at e;exact e.1.1.symm
   have:=HS0.out;omega
 have HO1':Hid (OwnN w1 (b+1) (.slice (some ⟨b+1,0,none⟩) 0 68) []):=by have h:=HO1;rw[HS0.out] at h;exact h
 have HB1:Hid (Below (b+1) w0 w1):=(Below.refl _ w0).grown HG1 hs0 (fun k e=>by cases e);clear HO1 HG1;have HB2:=zh (((Below.refl w1.heap.size w1).alloc zl (.cells #[Value.slice (some ⟨b+1,0,none⟩) 0 68] 141)).alloc (by simp) (.cells #[Value.int .i64 0] 3));have HR2:=zh (heap_alloc_new w1 (.cells #[Value.slice (some ⟨b+1,0,none⟩) 0 68] 141));have HR3:=zh (heap_alloc_new (w1.alloc (.cells #[Value.slice (some ⟨b+1,0,none⟩) 0 68] 141)) (.cells #[Value.int .i64 0] 3));have HR4:=zh (heap_alloc_old (w1.alloc (.cells #[Value.slice (some ⟨b+1,0,none⟩) 0 68] 141)) (.cells #[Value.int .i64 0] 3) (show w1.heap.size<_ by simp));generalize hw2:World.alloc (World.alloc w1 _) _=w2;have H2a:Hid (Ah w2 w1.heap.size #[Value.slice (some ⟨b+1,0,none⟩) 0 68] 141):=by rw[←hw2];exact HR4.out.trans HR2.out
 have H2b:Hid (w2.heap[w1.heap.size+1]? = some (.cells #[Value.int .i64 0] 3 (0,0))):=by rw[←hw2];have:=HR3.out;rw[World.size_alloc] at this;exact this
 have H2:Hid (Below w1.heap.size w1 w2):=by rw[←hw2];exact HB2.out
 have hz2:w2.heap.size=w1.heap.size+2:=by rw[←hw2];simp
 clear hw2 HB2 HR2 HR3 HR4;have HZ2':=zh hz2;clear hz2;generalize hp:w1.heap.size=p at *;have HP:=zh hp;clear hp;refine⟨trivial,(callsIn_wide.2 (pY _ _ _ w2)).mono ?_⟩;rintro e w3 ⟨rfl,hw3⟩;simp only[HZ2'.out];have HB3:Hid (Below (p+2) w2 w3):=by rw[hw3];exact (Below.refl _ _).alloc (Nat.le_of_eq HZ2'.out.symm) _
 have H3c:Hid (w3.heap[p+2]? = some (.cells #[Value.slice (some ⟨b,0,none⟩) 16 32] 22 (0,0))):=by rw[hw3,←HZ2'.out];exact heap_alloc_new _ _
 have H3z:Hid (w3.heap.size=p+3):=by show _=_;rw[hw3,World.size_alloc,HZ2'.out]
 clear hw3;have H3a:Hid (Boxed w3 p 141 (.slice (some ⟨b+1,0,none⟩) 0 68)):=by show _=_;rw[HB3.out.block p zo];exact H2a.out
 have H3b:Hid (Boxed w3 (p+1) 3 (.int .i64 0)):=by show _=_;rw[HB3.out.block (p+1) zo];exact H2b.out
 have HB23:Hid (Below p w1 w3):=H2.out.trans (HB3.out.mono zo);have H3d:Hid (w3.heap[b]? = some (.cells (dgA d) 77 (0,0))):=by
  show _=_;rw[HB23.out.block b zo,HB1.out.block b zo];exact HD0.out
 have H3o:Hid (OwnN w3 (b+1) (.slice (some ⟨b+1,0,none⟩) 0 68) []):=by
  have h:=HB23.out;rw[←HP.out] at h;exact HO1'.out.below h
 have HBA:Hid (Below b w w3):=HB0.out.trans ((HB1.out.mono zo).trans (HB23.out.mono zo));have HBA1:Hid (Below (b+1) w0 w3):=HB1.out.trans (HB23.out.mono zo);have hz3:p+3≤w3.heap.size:=Nat.le_of_eq H3z.out.symm;have hz3':w3.heap.size≤p+3:=Nat.le_of_eq H3z.out;clear H2a H2b H2 HB3;have HSB:Hid (BfIn w3 (p+2) b 0 16 32 (d.take 16)):=⟨by rw[cell_of_row w3 (p+2) 0 _ _ _ H3c.out];rfl,by rw[List.length_take,HD.out.1];rfl,fun x hx=>HD.out.2 x (List.mem_of_mem_take hx),fun j hj=>by
  rw[Nat.zero_add,aG H3d.out (rX d j (by have:=HD.out.1;omega)),List.getD_eq_getElem?_getD,List.getD_eq_getElem?_getD,List.getElem?_take,if_pos hj]⟩
 have HIN:Hid (DigN w0 b p [] w3):=⟨⟨⟨_,H3a.out,H3o.out,rfl⟩,HBA1.out,by omega,fun k hk _=>HBA1.out.block k (by have:=HS0.out;omega)⟩,H3b.out,by omega⟩;have hI:=RB w0 b p w3.heap.size zo zo (by have:=HS0.out;omega) (by have:=HS0.out;omega);have HIo:=zh hI
 gi_wp2_with fail
 refine wpIn_rangeFunc_ownF (α:=Int) rfl (by decide) (gf:=173) (lb:=#[.pointer (some ⟨p+2,0,none⟩)]) rfl trivial (enters_of Tryz.func173 (by kernel_rfl) rfl)
  (tZ 11 (by decide) (p+2) b 0 16 32 (d.take 16) zo w3 zo zo HSB.out)
  Keep2.trans (zB zo zo) (Below.refl _ _) (fun _=>rfl) (DigN w0 b p) (fun _ _ _=>False) hI (fun _ _ _ _ _ h _ _=>h) HIN.out
  (fun x=>aAa d b p x) ?assign ?body ?done ?stop
 clear hI
 case assign =>
  intro l x W K hK;have HK:=zh hK;clear hK;simp only[ZZ,List.zip_toArray,List.zip_cons_cons,List.zip_nil_right,List.foldl_toArray,List.foldl_cons,List.foldl_nil,List.setIfInBounds_toArray,List.set_cons_succ,List.set_cons_zero]
  gi_wp2_with fail
  exact HK.out
 case body =>
  rintro l pre x W hin hlen;have hbig:=hin.big;have HFI:=zh hin;obtain⟨v,hv,hrow,rfl⟩:=hin.app.row;have hsum:=hin.sum;simp only[List.length_nil,Nat.zero_add,List.nil_append] at hv hrow;have HV:=zh hv;have mL:=zh hrow;have HSM:=zh hsum;have hc6:=hv.cell;have hf6:=hv.frozen;have hl16:(d.take 16).length=16:=by rw[List.length_take,HD.out.1];rfl
  have hkl:pre.length+1≤68:=by rw[hl16] at hlen;omega
  have HKL:=zh hkl;have hbaseW:b+1≤W.heap.size:=by omega
  obtain⟨i0,hi0,hz0,hz1,hz2⟩:=bF DX;have HI0:=zh hi0;have HZ1:=zh hz1;clear hv hrow hin hi0 hz0 hz1 hz2 hl16 hkl hlen hsum;unfold aAa
  gi_wp2_with (refine wpListIn_append_fits _ rfl (.tmp 10) (.tmp 12) _ rfl (b+1) _ i0 1 Tryz.underlying141 HI0.out HZ1.out (b+1) pre.length 68 (nv pre) rfl (mL.out.alloc _) ⟨W.heap.size,0,none⟩ 1 1 [.int .i64 x] rfl rfl (sE W x) (by intro u hu;simp at hu;subst hu;rfl) HKL.out ?_;intro W5 HO5 HG5;have HO5':=zh HO5;have TN:=zh HG5;have happ:=HV.out.appended (by decide) mL.out hbaseW (by omega:b+1≤p) HO5'.out TN.out;have hc7:=happ.1.cell;have hf7:=happ.1.frozen;have HAPP:=zh happ;have h8:=(HSM.out.alloc (.cells #[.int .i64 x] 3)).kept TN.out (fun e=>by injection e with e;omega);have hc8:=h8.cell;have hf8:=h8.frozen;have HS8:=zh h8;clear happ HO5 HG5 h8)
  obtain⟨-,hp2,hp3,hp4,hp5⟩:=HAPP.out;have hk4:=pP TN.out (.slice (some ⟨b+1,0,none⟩) (pre.length+1) 68) (by omega:p+2≠b+1) (by omega:b≠b+1) (by omega:p+2<W.heap.size) (by omega:b<W.heap.size) (by omega:p+2≠p) (by omega:b≠p);refine⟨hp4.trans (KeepsOthers.setCell _ _ _),hk4.trans (LQ zo zo _ _),⟨⟨_,hp2.other zo _,?_,?_⟩,(HFI.out.app.below.trans hp5).setCell (by show b+1≤p+1;omega) _,?_,fun k hk hkg=>(Below.heap_setCell _ ⟨p+1,0,none⟩ _ k (by have:=HS0.out;show k≠p+1;omega)).trans ((tV TN.out _ k (by have:=HS0.out;omega) (by have:=HS0.out;omega) hkg).trans (HFI.out.app.oth k hk hkg))⟩,?_,?_⟩
  ·rw[List.nil_append,List.length_append,BL];simp only[List.length_nil,Nat.zero_add];exact hp3.kept (grownBy_setCell' _ _ _) (.inr (by simp[Value.ownBlock];omega))
  ·rw[List.length_append];simp
  ·have h1:=hk4.1;show _≤(Array.modify _ _ _).size;rw[Array.size_modify];omega
  ·rw[xR];exact (HS8.out.other zo _).set _
  ·have h1:=hk4.1;show _≤(Array.modify _ _ _).size;rw[Array.size_modify];omega
 case done =>
  rintro D xs W hD hS hin hK;have hS2:xs=qI d:=hS;have HS:=zh hS2;clear hS hS2;obtain⟨v,hv,hrow,rfl⟩:=hin.app.row;have hbig:=hin.big;have hsum:=hin.sum;simp only[List.length_nil,Nat.zero_add,List.nil_append] at hv hrow;have hsl:UC xs=nF xs:=by rw[HS.out];exact JK (fun y hy=>lH hy) (by rw[fJ HD.out.1];decide)
  have hs0:0≤nF xs∧nF xs≤192:=by rw[HS.out];exact ST HD.out.1
  rw[hsl] at hsum;have hc6:=hv.cell;have hc7:=hsum.cell;have HX:Hid (digs d=xs++dV (nF xs)):=by rw[HS.out];rfl
  have HL64:Hid (xs.length=64):=by rw[HS.out];exact fJ HD.out.1
  generalize hs:nF xs=s at *;have HSS:=zh hs;clear hs;have mL:=zh hrow;have HFI:=zh hin;have HKs:=zh hK;have hwr:IntKind.u8.wrap s=s:=by simp[IntKind.wrap,IntKind.bits,IntKind.signed];omega
  clear hin hrow hK hv hsl hsum
  gi_wp2_with fail
  refine wpIn_wide.2 ?_;refine wp_region_noPanic ?_;refine wp_region_held_drew (S:=fun w'=>w'.cell? ⟨p,0,none⟩=some (.slice (some ⟨b+1,0,none⟩) xs.length 68)∧w'.cell? ⟨p+1,0,none⟩=some (.int .i64 s)) (by kernel_rfl) ⟨hc6,hc7⟩ (fun hHeld=>?_);refine zx 0 rfl (v:=?_) ?_ ?_;rotate_left
  ·intro w' hSw;have hq:=hSw.1;go_simp;try with_reducible rfl
  refine zx 1 rfl (v:=?_) ?_ ?_;rotate_left
  ·intro w' hSw;have hq:=hSw.2;go_simp;try with_reducible rfl
  refine zv 2 rfl ?_;refine zr 3 rfl (fun K hK=>?_);go_simp;have HR4:=zh (show ((W.alloc (.cells #[Value.int .u8 s] 5)).drew).heap[W.heap.size]? = some (.cells #[Value.int .u8 s] 5 (0,0)) from heap_alloc_new W _);have HB4:=zh (((Below.refl W.heap.size W).alloc zl (.cells #[Value.int .u8 s] 5)).drew);have HZ4:=zh (show ((W.alloc (.cells #[Value.int .u8 s] 5)).drew).heap.size=W.heap.size+1 by simp);generalize hw4:World.drew (World.alloc W _)=w4;rw[hw4] at HR4 HB4 HZ4;clear hw4;refine hK.out _ _ ⟨(HB4.out.cell (p:=⟨p,0,none⟩) (by show p<_;omega)).trans hc6,(HB4.out.cell (p:=⟨p+1,0,none⟩) (by show p+1<_;omega)).trans hc7⟩ fun _=>?_;clear hK K
  try simp only[Act.put,zu]
  refine zr 4 rfl (fun K hK=>?_);go_simp
  with_reducible refine (pY _ _ _ _).mono ?_
  rintro e w5 ⟨rfl,hw5⟩;simp only[HZ4.out];have HB5:Hid (Below W.heap.size W w5):=by rw[hw5];exact HB4.out.alloc HB4.out.size _
  have HBF5:Hid (BfIn w5 (W.heap.size+1) W.heap.size 0 1 1 [s]):=⟨by rw[hw5,←HZ4.out];exact aG (heap_alloc_new w4 _) rfl,rfl,fun x hx=>by (rw[List.mem_singleton.1 hx];omega),fun j hj=>by
   obtain rfl:j=0:=by omega
   rw[hw5];exact aG (L:=[Value.int .u8 s]) ((heap_alloc_old w4 _ (by have:=HZ4.out;omega)).trans HR4.out) rfl⟩
  have HCN:Hid (Calls Tryz.prog 154 #[.slice (some ⟨b+1,0,none⟩) xs.length 68,.func (.func 173) #[] #[.pointer (some ⟨W.heap.size+1,0,none⟩)]] w5 fun e w'=>e=.returned (.slice (some ⟨b+1,0,none⟩) 68 68)∧OwnN w' (b+1) (.slice (some ⟨b+1,0,none⟩) 68 68) (digs d)∧Below (b+1) w5 w'∧∀ k,k<w5.heap.size→k≠b+1→w'.heap[k]? = w5.heap[k]?):=by
   have hz5:w5.heap.size=W.heap.size+2:=by rw[hw5,World.size_alloc,HZ4.out]
   have h:=sZ (W.heap.size+1) W.heap.size 0 1 1 [s] (b+1) 68 xs (b+1) w5 zo (by have:=HL64.out;simp only[List.length_singleton];omega) (OwnN.below mL.out HB5.out) zo zo zo zo zo HBF5.out;have e:xs++[s].flatMap dV=digs d:=by rw[HX.out];simp
   rw[e,cX HD.out.1] at h;exact h
  have HQ5:Hid (w5.cell? ⟨p,0,none⟩=some (.slice (some ⟨b+1,0,none⟩) xs.length 68)∧w5.cell? ⟨p+1,0,none⟩=some (.int .i64 s)):=⟨(HB5.out.cell (p:=⟨p,0,none⟩) (by show p<_;omega)).trans hc6,(HB5.out.cell (p:=⟨p+1,0,none⟩) (by show p+1<_;omega)).trans hc7⟩;have HZ5:Hid (w5.heap.size=W.heap.size+2):=by show _=_;rw[hw5,World.size_alloc,HZ4.out]
  clear hw5;go_wp2_with fail;refine hK.out _ _ HQ5.out fun _=>?_;clear hK K
  try simp only[Act.put,zu]
  refine zr 5 rfl (fun K hK=>?_);go_simp
  with_reducible refine (HCN.out).mono ?_
  rintro e w6 ⟨rfl,hown6,hbel6,hoth6⟩;have HO6:=zh hown6;have HB6:=zh hbel6;have HK6:Hid (w6.heap[D]? = some (.deferred (some []))):=(hoth6 D (by have:=HB5.out.size;have:=(Array.getElem?_eq_some_iff.1 HKs.out).1;omega) zo).trans ((HB5.out.block D (Array.getElem?_eq_some_iff.1 HKs.out).1).trans HKs.out);have hz5:=HZ5.out;clear hown6 hbel6;go_wp2_with fail;refine hK.out _ _ ⟨(EO hoth6 p zo zo).trans HQ5.out.1,(EO hoth6 (p+1) zo zo).trans HQ5.out.2⟩ fun _=>?_;clear hK K
  try simp only[Act.put,zu]
  refine zv 6 rfl ?_;refine zd ?_ _;refine NoPanic.normal ?_;have hD2:b+1≤D:=by omega
  have hHB:=HBZ.out
  gi_wp2_with fail
  refine⟨by simp,.inl ⟨_,_,rfl,run_takeDeferred HK6.out,?_⟩⟩;refine⟨.slice (some ⟨b+1,0,none⟩) 68 68,?_,?_⟩
  ·simp[results,Tryz.f125,go_sem]
  ·refine⟨some ⟨b+1,0,none⟩,68,rfl,OwnN.base (base:=b+1) ?_ zo,?_⟩
   ·have h:=HO6.out;exact ownsRow_putObj h _ HK6.out rfl
   ·have x1:Below (b+1) W w5:=HB5.out.mono zo;have x2:=belowK_b (n₀:=b+1) (w:=w3) zo w6 D _ (.deferred none) hD HK6.out rfl rfl;have x3:=HFI.out.app.below.trans (x1.trans (HB6.out.trans x2));exact HB0.out.trans (x3.mono zo)
 case stop =>
  rintro D c pre W hD hSp hout hK;exact hout.elim
end Go.Proofs.YtaeobegaodhpcaaGreatDoor
namespace Go.Proofs.YtaeobegaodhpcaaGreatDoor
open Go.RowKit Go.Proofs.YtaeobegaodhpcaaGreatDoor.One
theorem OwnN.cells {w:World} {base:Nat} {sp:Option Addr} {n cap:Nat} {l:List Int} (h:OwnN w base (.slice sp n cap) l) (hl:l.length=n) (hn:0<n) :
 ∃ g,sp=some ⟨g,0,none⟩∧g<w.heap.size∧n≤cap∧∀ j,j<n→w.cell? ⟨g,j,none⟩=some (.int .i64 (l.getD j 0)):=by
 obtain⟨h0,h | ⟨g,c,cur,e,hg,h1,h2,h3,h4,h5⟩⟩:=h
 ·have e:=h.1;simp only[Value.slice.injEq] at e;omega
 ·simp only[Value.slice.injEq] at e;obtain⟨e1,e2,e3⟩:=e;subst e3;refine⟨g,e1,(Array.getElem?_eq_some_iff.1 h1).1,by omega,fun j hj=>?_⟩;rw[cell_of_row w g j _ _ _ h1];have h6:(nv l)[j]? = some (.int .i64 (l.getD j 0)):=by
   unfold nv;rw[List.getElem?_map,List.getD_eq_getElem?_getD,List.getElem?_eq_getElem zo];rfl
  rw[←h5,List.getElem?_take,if_pos zo] at h6;simpa using h6
end Go.Proofs.YtaeobegaodhpcaaGreatDoor
namespace Go.Proofs.YtaeobegaodhpcaaGreatDoor
open Go
def ZX (n:Nat):Nat→Nat→Nat
 | 0,k=>k
 | f+1,k=>if 2*k<n then ZX n f (2*k) else k
def kp (n:Nat):Nat:=ZX n n 1
def OnWay (n k:Nat):Prop:=1≤k∧k<n∧∃ f,n≤f+k∧ZX n f k=kp n
theorem OnWay.start (n:Nat) (h:2≤n):OnWay n 1:=⟨by omega,by omega,n,by omega,rfl⟩
theorem OnWay.step {n k:Nat} (h:OnWay n k) (hk:2*k<n):OnWay n (2*k):=by
 obtain⟨h1,_,f,hf,hg⟩:=h;obtain⟨g,rfl⟩:∃ g,f=g+1:=⟨f-1,by omega⟩;refine⟨by omega,hk,g,by omega,?_⟩;rw[←hg];conv=>rhs;unfold ZX;rw[if_pos hk]
theorem OnWay.fin {n k:Nat} (h:OnWay n k) (hk:¬ 2*k<n):k=kp n:=by
 obtain⟨_,_,f,_,hg⟩:=h;rw[←hg]
 cases f with
 | zero=>rfl
 | succ g=>unfold ZX;rw[if_neg hk]
theorem YW (x:Int):Byt (wb x):=fun y hy=>by
 simp only[wb,List.mem_cons,List.not_mem_nil,or_false] at hy;rcases hy with rfl | rfl | rfl | rfl <;> omega
theorem lJ:∀ l:List Int,Byt (aP l)
 | []=>fun x hx=>by simp[aP] at hx
 | y :: r=>(YW y).append (lJ r)
def Digs (l:List (List Int)):Prop:=∀ x ∈ l,x.length=32∧Byt x
theorem Digs.take {l:List (List Int)} (h:Digs l) (k:Nat):Digs (l.take k):=fun x hx=>h x (List.mem_of_mem_take hx)
theorem Digs.drop {l:List (List Int)} (h:Digs l) (k:Nat):Digs (l.drop k):=fun x hx=>h x (List.mem_of_mem_drop hx)
end Go.Proofs.YtaeobegaodhpcaaGreatDoor
namespace Go.Proofs.YtaeobegaodhpcaaGreatDoor
open Go.RowKit Go.Proofs.YtaeobegaodhpcaaGreatDoor.One
def H16 (l:List Int):Prop:=l.length=16∧Byt l
def hfB (l:List Int):List Int:=(aP (sha l).list).take 16
theorem jL (l:List Int):H16 (hfB l):=⟨by simp[hfB,aO,St.list_length],(lJ _).take 16⟩
def hvA (h:List Int):Array Value:=(h.map (Value.int .u8)).toArray
theorem aI {h:List Int} (hh:H16 h):(Tryz.prog.info? 42).map (·.size)=some (hvA h).size:=by
 rw[show (hvA h).size=16 by simp[hvA,hh.1]];exact Tryz.info30h
theorem cE {h:List Int} (hh:H16 h):(Array.replicate 16 (Value.int .u8 0)).size=(hvA h).size:=by simp[hvA,hh.1]
theorem cM (h:List Int):(hvA h).all (·.oneCell')=true:=aW _ _
def lb1 (leaf:Int):Int:=leaf / 256 % 256
def lb0 (leaf:Int):Int:=leaf % 256
theorem LA (x:Int):Byt [x % 256]:=fun y hy=>by rw[List.mem_singleton.1 hy];omega
theorem lY (x y:Int):Byt [x % 256,y % 256]:=fun z hz=>by
 simp only[List.mem_cons,List.not_mem_nil,or_false] at hz;rcases hz with rfl | rfl <;> omega
theorem ZW (ps:List Part) (w:World) (hs:∀ q ∈ ps,Src w w.heap.size q.sp q.n q.cap q.b) (hk:KayIn w) (hk0:4<w.heap.size) (hbd:(cat ps).length≤1099511627776) (hnp:ps.length≤1099511627776) :
 Calls Tryz.prog 157 #[.slice (some ⟨w.heap.size,0,none⟩) ps.length ps.length] (w.alloc (.cells (ps.map Part.val).toArray 22)) fun e w'=>e=.returned (.agg (hvA (hfB (cat ps))))∧Below w.heap.size w w':=by
 have hba:=aA w (.cells (ps.map Part.val).toArray 22);have hsa:=aF w (.cells (ps.map Part.val).toArray 22);have hga:=heap_alloc_new w (.cells (ps.map Part.val).toArray 22);generalize World.alloc w _=w6 at *;have hp:PartsIn w6 w6.heap.size (some ⟨w.heap.size,0,none⟩) ps.length ps:=by
  refine mD (ps:=ps) hga zo ?_;intro q hq;exact ((hs q hq).below hba zl).more zo
 refine (EW _ ps.length ps.length ps w6 hp (hk.below hba hk0) zo hbd hnp).mono fun e w' ⟨he,hb⟩=>⟨he,hba.trans (hb.mono hba.size)⟩
theorem jH (leaf:Int) (w:World) :
 Calls Tryz.prog 156 #[.int .i64 leaf] w fun e w'=>e=.returned (.agg #[.int .u8 (lb1 leaf),.int .u8 (lb0 leaf)])∧Below w.heap.size w w':=by
 go_enter Tryz.func156,Tryz.ntmps156
 go_wp2_with fail;exact bodyPost_ret (results_cell_row (P:=Tryz.prog) rfl _ _ w.heap.size 182 _ (0,0) _ rfl (heap_alloc_new w _) Tryz.underlying182 rfl (by kernel_rfl)) rfl ⟨rfl,aA _ _⟩
def xB (seed:List Int) (leaf c:Int):List Int:=hfB ([3]++seed++[lb1 leaf,lb0 leaf]++[c % 256])
def iO (x:List Int) (leaf c p:Int):List Int:=hfB ([4]++x++[lb1 leaf,lb0 leaf]++[c % 256,p % 256])
theorem dF (x:List Int) (leaf c:Int):H16 (xB x leaf c):=jL _
theorem dP (x:List Int) (leaf c p:Int):H16 (iO x leaf c p):=jL _
structure Two (w:World) (x:List Int) (w0:World):Prop where
 x:RowIn w0 w.heap.size 42 .u8 x
 z:w0.heap[w.heap.size+1]? = some (.cells (Array.replicate 16 (Value.int .u8 0)) 42 (0,0))
 b:Below w.heap.size w w0
 s:w0.heap.size=w.heap.size+2
theorem Two.new (w:World) (x:List Int):Two w x ((w.alloc (.cells (hvA x) 42)).alloc (.cells (Array.replicate 16 (Value.int .u8 0)) 42)) :=
 ⟨(heap_alloc_old _ _ (by simp)).trans (heap_alloc_new w _),by have h:=heap_alloc_new (w.alloc (.cells (hvA x) 42)) (.cells (Array.replicate 16 (Value.int .u8 0)) 42);rw[World.size_alloc] at h;exact h,((Below.refl _ _).alloc zl _).alloc (by simp) _,by simp⟩
structure RowB (w:World) (t:TypeId) (l:List Int) (w':World):Prop where
 r:RowIn w' w.heap.size t .u8 l
 b:Below w.heap.size w w'
 s:w'.heap.size=w.heap.size+1
theorem RowB.new (w:World) (t:TypeId) (l:List Int):RowB w t l (w.alloc (.cells (l.map (Value.int .u8)).toArray t)):=⟨heap_alloc_new w _,aA _ _,aF _ _⟩
theorem RowB.drew (w:World) (t:TypeId) (l:List Int):RowB w t l (World.drew (w.alloc (.cells (l.map (Value.int .u8)).toArray t))):=⟨heap_alloc_new w _,(aA _ _).drew,aF _ _⟩
theorem nN (tag:Int) (x t cs:List Int) (n:Nat) (w:World) (ba bh bq bc:Nat) (h1:RowIn w ba 5 .u8 [tag]) (h2:RowIn w bh 42 .u8 x) (h3:RowIn w bq 182 .u8 t) (h4:RowIn w bc 5 .u8 cs)
 (l1:ba<w.heap.size) (l2:bh<w.heap.size) (l3:bq<w.heap.size) (l4:bc<w.heap.size) (hx:H16 x) (ht:0≤tag∧tag<256) (hq:Byt [t.getD 0 0,t.getD 1 0]) (hc:Byt cs) (hn:cs.length=n) (hk:KayIn w) (hk0:4<w.heap.size) (ht2:t=[t.getD 0 0,t.getD 1 0]:=by rfl) (hn2:n≤100:=by decide) :
 Calls Tryz.prog 157 #[.slice (some ⟨w.heap.size,0,none⟩) 4 4] (w.alloc (.cells #[.slice (some ⟨ba,0,none⟩) 1 1,.slice (some ⟨bh,0,none⟩) 16 16,.slice (some ⟨bq,0,none⟩) 2 2,.slice (some ⟨bc,0,none⟩) n n] 22)) fun e w'=>e=.returned (.agg (hvA (hfB ([tag]++x++t++cs))))∧Below w.heap.size w w':=by
 subst hn;have hl2:t.length=2:=by rw[ht2];rfl
 have hb2:Byt t:=by rw[ht2];exact hq
 have h:=ZW [⟨some ⟨ba,0,none⟩,1,1,[tag]⟩,⟨some ⟨bh,0,none⟩,16,16,x⟩,⟨some ⟨bq,0,none⟩,2,2,t⟩,⟨some ⟨bc,0,none⟩,cs.length,cs.length,cs⟩] w (by
  intro q hq;simp only[List.mem_cons,List.not_mem_nil,or_false] at hq;rcases hq with rfl | rfl | rfl | rfl
  ·exact bN (L:=[tag]) h1 (fun y hy=>by rw[List.mem_singleton.1 hy];exact ht) l1 (by simp)
  ·have:=bN (cap:=16) h2 hx.2 l2 (by rw[hx.1];exact Nat.le_refl _);rw[hx.1] at this;exact this
  ·have:=bN (cap:=2) h3 hb2 l3 (by rw[hl2];exact Nat.le_refl _);rw[hl2] at this;exact this
  ·exact bN h4 hc l4 zl) hk hk0 (by simp only[cat,List.map_cons,List.map_nil,List.flatten_cons,List.flatten_nil,List.length_append,List.length_cons,List.length_nil];rw[hx.1,hl2];omega) (show 4≤1099511627776 by omega)
 have e:cat [⟨some ⟨ba,0,none⟩,1,1,[tag]⟩,⟨some ⟨bh,0,none⟩,16,16,x⟩,⟨some ⟨bq,0,none⟩,2,2,t⟩,⟨some ⟨bc,0,none⟩,cs.length,cs.length,cs⟩]=[tag]++x++t++cs:=by simp[cat]
 rw[e] at h;exact h
theorem tO (x:List Int) (leaf c:Int) (w:World) (hs:H16 x) (hk:KayIn w) (hk0:4<w.heap.size) :
 Calls Tryz.prog 127 #[.agg (hvA x),.int .i64 leaf,.int .i64 c] w fun e w'=>e=.returned (.agg (hvA (xB x leaf c)))∧Below w.heap.size w w':=by
 have HK:=zh hk;have HS:=zh hs;clear hk hs;have HT:=zh (Two.new w x)
 go_enter Tryz.func127,Tryz.ntmps127
 go_wp2_with fail;generalize hw0:World.alloc (World.alloc w _) _=w0;have HT0:Hid (Two w x w0):=by rw[←hw0];exact HT.out
 clear hw0 HT;generalize hb:w.heap.size=b at *;have HBZ:=zh hb;clear hb;refine (jH leaf w0).mono ?_;rintro e w1 ⟨rfl,hb1⟩;have HB1:=zh hb1;clear hb1;have hz1:b+2≤w1.heap.size:=by have h1:=HB1.out.size;have h2:=HT0.out.s;have h3:=HBZ.out;omega
 have hz0:b+2≤w0.heap.size:=by have h2:=HT0.out.s;have h3:=HBZ.out;omega
 have HN:=zh (RowB.new w1 182 [lb1 leaf,lb0 leaf]);go_wp2_with fail;generalize hw2:World.alloc w1 _=w2;have HR2:Hid (RowB w1 182 [lb1 leaf,lb0 leaf] w2):=by rw[←hw2];exact HN.out
 clear hw2 HN;generalize hq:w1.heap.size=q at *;have HQQ:=zh hq;clear hq;have HQ2:Hid (RowIn w2 q 182 .u8 [lb1 leaf,lb0 leaf]):=by rw[←HQQ.out];exact HR2.out.r
 have hq2:q<w2.heap.size:=by have h1:=HR2.out.s;have h2:=HQQ.out;omega
 have hb2:b<w2.heap.size:=by omega
 have hz2:b+1<w2.heap.size:=by omega
 have CS:Hid (Bw w0 w2):=by have h1:=HR2.out.b;exact HB1.out.trans (h1.mono HB1.out.size)
 have HX2:Hid (RowIn w2 b 42 .u8 x):=by have h:=HT0.out.x;rw[HBZ.out] at h;exact h.below CS.out zo
 have HZ2:Hid (w2.heap[b+1]? = some (.cells (Array.replicate 16 (Value.int .u8 0)) 42 (0,0))):=by have h:=HT0.out.z;rw[HBZ.out] at h;exact (CS.out.block _ zo).trans h
 have HB2:Hid (Below b w w2):=by have h:=HT0.out.b;rw[HBZ.out] at h;exact h.trans (CS.out.mono zo)
 have HKK:=zh (HK.out.below HB2.out hk0);have hk2:4<w2.heap.size:=by omega
 clear HR2 HB1 HT0 HK;refine wp_region_held_drew (S:=fun w'=>True) (by kernel_rfl) trivial (fun hHeld=>?_);refine zv 1 rfl ?_;refine zv 2 rfl ?_;refine zv 3 rfl ?_;refine zv 4 rfl ?_;refine zs 0 5 rfl (fun K hK=>?_) rfl (fun K hK=>?_)
 ·have HO:=zh (RowB.drew w2 5 [3]);go_simp;generalize hw:World.drew (World.alloc w2 _)=w3;have wM:Hid (RowB w2 5 [3] w3):=by rw[←hw];exact HO.out
  clear hw HO;refine hK.out _ _ trivial fun _=>?_;clear hK K
  try simp only[Act.put,zu]
  refine zr 5 rfl (fun K hK=>?_);have HO:=zh (RowB.new w3 5 [c % 256]);go_simp;generalize hw:World.alloc w3 _=w4;have wL:Hid (RowB w3 5 [c % 256] w4):=by rw[←hw];exact HO.out
  clear hw HO;refine hK.out _ _ trivial fun _=>?_;clear hK K
  try simp only[Act.put,zu]
  have hs3:=wM.out.s;have hs4:=wL.out.s;have HB4:Hid (Bw w2 w4):=wM.out.b.trans (wL.out.b.mono zo);have HCH:=zh (show Calls _ _ _ _ (fun e w'=>e=.returned (.agg (hvA (xB x leaf c)))∧Below w4.heap.size w4 w') from nN 3 x [lb1 leaf,lb0 leaf] [c % 256] 1 w4 (w2.heap.size) b q (w3.heap.size) (wM.out.r.below wL.out.b (by have:=wM.out.s;omega)) (HX2.out.below HB4.out hb2) (HQ2.out.below HB4.out hq2) wL.out.r zo zo zo zo HS.out (by decide) (lY _ _) (LA _) rfl (HKK.out.below HB4.out hk2) zo);clear hs3 hs4;refine zr 6 rfl (fun K hK=>?_);go_simp;refine hK.out _ _ trivial fun _=>?_;clear hK K
  try simp only[Act.put,zu]
  refine zr 7 rfl (fun K hK=>?_);go_simp
  with_reducible refine HCH.out.mono ?_
  rintro e w6 ⟨rfl,hb6⟩;have HB6:=zh (HB4.out.trans (hb6.mono HB4.out.size));have HZ6:=zh ((HB6.out.block _ hz2).trans HZ2.out);clear hb6;go_wp2_with fail;refine hK.out _ _ trivial fun _=>?_;clear hK K
  try simp only[Act.put,zu]
  refine zr 8 rfl (fun K hK=>?_);rw[if_pos (by rfl)];refine wp_store_row 42 _ _ rfl (b+1) _ rfl rfl 42 _ HZ6.out (aI (dF _ _ _)) (cE (dF _ _ _)) (cM _) ?_;refine hK.out _ _ trivial fun _=>?_;clear hK K
  try simp only[Act.put,zu]
  refine zd ?_ _;go_wp2_with fail;exact bodyPost_ret (results_cell_row (P:=Tryz.prog) rfl _ _ (b+1) 42 _ (0,0) _ rfl (setRow_heap _ _ _ _ _ _ HZ6.out) Tryz.underlying42 rfl (aI (dF _ _ _))) rfl ⟨rfl,by rw[HBZ.out];exact below_setRow (HB2.out.trans (HB6.out.mono zo)) zo _⟩
 ·have HO:=zh (RowB.drew w2 5 [c % 256]);go_simp;generalize hw:World.drew (World.alloc w2 _)=w3;have wM:Hid (RowB w2 5 [c % 256] w3):=by rw[←hw];exact HO.out
  clear hw HO;refine hK.out _ _ trivial fun _=>?_;clear hK K
  try simp only[Act.put,zu]
  refine zr 0 rfl (fun K hK=>?_);have HO:=zh (RowB.new w3 5 [3]);go_simp;generalize hw:World.alloc w3 _=w4;have wL:Hid (RowB w3 5 [3] w4):=by rw[←hw];exact HO.out
  clear hw HO;refine hK.out _ _ trivial fun _=>?_;clear hK K
  try simp only[Act.put,zu]
  have hs3:=wM.out.s;have hs4:=wL.out.s;have HB4:Hid (Bw w2 w4):=wM.out.b.trans (wL.out.b.mono zo);have HCH:=zh (show Calls _ _ _ _ (fun e w'=>e=.returned (.agg (hvA (xB x leaf c)))∧Below w4.heap.size w4 w') from nN 3 x [lb1 leaf,lb0 leaf] [c % 256] 1 w4 (w3.heap.size) b q (w2.heap.size) wL.out.r (HX2.out.below HB4.out hb2) (HQ2.out.below HB4.out hq2) (wM.out.r.below wL.out.b (by have:=wM.out.s;omega)) zo zo zo zo HS.out (by decide) (lY _ _) (LA _) rfl (HKK.out.below HB4.out hk2) zo);clear hs3 hs4;refine zr 6 rfl (fun K hK=>?_);go_simp;refine hK.out _ _ trivial fun _=>?_;clear hK K
  try simp only[Act.put,zu]
  refine zr 7 rfl (fun K hK=>?_);go_simp
  with_reducible refine HCH.out.mono ?_
  rintro e w6 ⟨rfl,hb6⟩;have HB6:=zh (HB4.out.trans (hb6.mono HB4.out.size));have HZ6:=zh ((HB6.out.block _ hz2).trans HZ2.out);clear hb6;go_wp2_with fail;refine hK.out _ _ trivial fun _=>?_;clear hK K
  try simp only[Act.put,zu]
  refine zr 8 rfl (fun K hK=>?_);rw[if_pos (by rfl)];refine wp_store_row 42 _ _ rfl (b+1) _ rfl rfl 42 _ HZ6.out (aI (dF _ _ _)) (cE (dF _ _ _)) (cM _) ?_;refine hK.out _ _ trivial fun _=>?_;clear hK K
  try simp only[Act.put,zu]
  refine zd ?_ _;go_wp2_with fail;exact bodyPost_ret (results_cell_row (P:=Tryz.prog) rfl _ _ (b+1) 42 _ (0,0) _ rfl (setRow_heap _ _ _ _ _ _ HZ6.out) Tryz.underlying42 rfl (aI (dF _ _ _))) rfl ⟨rfl,by rw[HBZ.out];exact below_setRow (HB2.out.trans (HB6.out.mono zo)) zo _⟩
theorem OX (x:List Int) (leaf c p:Int) (w:World) (hs:H16 x) (hk:KayIn w) (hk0:4<w.heap.size) :
 Calls Tryz.prog 155 #[.agg (hvA x),.int .i64 leaf,.int .i64 c,.int .i64 p] w fun e w'=>e=.returned (.agg (hvA (iO x leaf c p)))∧Below w.heap.size w w':=by
 have HK:=zh hk;have HS:=zh hs;clear hk hs;have HT:=zh (Two.new w x)
 go_enter Tryz.func155,Tryz.ntmps155
 go_wp2_with fail;generalize hw0:World.alloc (World.alloc w _) _=w0;have HT0:Hid (Two w x w0):=by rw[←hw0];exact HT.out
 clear hw0 HT;generalize hb:w.heap.size=b at *;have HBZ:=zh hb;clear hb;refine (jH leaf w0).mono ?_;rintro e w1 ⟨rfl,hb1⟩;have HB1:=zh hb1;clear hb1;have hz1:b+2≤w1.heap.size:=by have h1:=HB1.out.size;have h2:=HT0.out.s;have h3:=HBZ.out;omega
 have hz0:b+2≤w0.heap.size:=by have h2:=HT0.out.s;have h3:=HBZ.out;omega
 have HN:=zh (RowB.new w1 182 [lb1 leaf,lb0 leaf]);go_wp2_with fail;generalize hw2:World.alloc w1 _=w2;have HR2:Hid (RowB w1 182 [lb1 leaf,lb0 leaf] w2):=by rw[←hw2];exact HN.out
 clear hw2 HN;generalize hq:w1.heap.size=q at *;have HQQ:=zh hq;clear hq;have HQ2:Hid (RowIn w2 q 182 .u8 [lb1 leaf,lb0 leaf]):=by rw[←HQQ.out];exact HR2.out.r
 have hq2:q<w2.heap.size:=by have h1:=HR2.out.s;have h2:=HQQ.out;omega
 have hb2:b<w2.heap.size:=by omega
 have hz2:b+1<w2.heap.size:=by omega
 have CS:Hid (Bw w0 w2):=by have h1:=HR2.out.b;exact HB1.out.trans (h1.mono HB1.out.size)
 have HX2:Hid (RowIn w2 b 42 .u8 x):=by have h:=HT0.out.x;rw[HBZ.out] at h;exact h.below CS.out zo
 have HZ2:Hid (w2.heap[b+1]? = some (.cells (Array.replicate 16 (Value.int .u8 0)) 42 (0,0))):=by have h:=HT0.out.z;rw[HBZ.out] at h;exact (CS.out.block _ zo).trans h
 have HB2:Hid (Below b w w2):=by have h:=HT0.out.b;rw[HBZ.out] at h;exact h.trans (CS.out.mono zo)
 have HKK:=zh (HK.out.below HB2.out hk0);have hk2:4<w2.heap.size:=by omega
 clear HR2 HB1 HT0 HK;refine wp_region_held_drew (S:=fun w'=>True) (by kernel_rfl) trivial (fun hHeld=>?_);refine zv 1 rfl ?_;refine zv 2 rfl ?_;refine zv 3 rfl ?_;refine zv 4 rfl ?_;refine zv 5 rfl ?_;refine zv 6 rfl ?_;refine zs 0 7 rfl (fun K hK=>?_) rfl (fun K hK=>?_)
 ·have HO:=zh (RowB.drew w2 5 [4]);go_simp;generalize hw:World.drew (World.alloc w2 _)=w3;have wM:Hid (RowB w2 5 [4] w3):=by rw[←hw];exact HO.out
  clear hw HO;refine hK.out _ _ trivial fun _=>?_;clear hK K
  try simp only[Act.put,zu]
  refine zr 7 rfl (fun K hK=>?_);have HO:=zh (RowB.new w3 5 [c % 256,p % 256]);go_simp;generalize hw:World.alloc w3 _=w4;have wL:Hid (RowB w3 5 [c % 256,p % 256] w4):=by rw[←hw];exact HO.out
  clear hw HO;refine hK.out _ _ trivial fun _=>?_;clear hK K
  try simp only[Act.put,zu]
  have hs3:=wM.out.s;have hs4:=wL.out.s;have HB4:Hid (Bw w2 w4):=wM.out.b.trans (wL.out.b.mono zo);have HCH:=zh (show Calls _ _ _ _ (fun e w'=>e=.returned (.agg (hvA (iO x leaf c p)))∧Below w4.heap.size w4 w') from nN 4 x [lb1 leaf,lb0 leaf] [c % 256,p % 256] 2 w4 (w2.heap.size) b q (w3.heap.size) (wM.out.r.below wL.out.b (by have:=wM.out.s;omega)) (HX2.out.below HB4.out hb2) (HQ2.out.below HB4.out hq2) wL.out.r zo zo zo zo HS.out (by decide) (lY _ _) (lY _ _) rfl (HKK.out.below HB4.out hk2) zo);clear hs3 hs4;refine zr 8 rfl (fun K hK=>?_);go_simp;refine hK.out _ _ trivial fun _=>?_;clear hK K
  try simp only[Act.put,zu]
  refine zr 9 rfl (fun K hK=>?_);go_simp
  with_reducible refine HCH.out.mono ?_
  rintro e w6 ⟨rfl,hb6⟩;have HB6:=zh (HB4.out.trans (hb6.mono HB4.out.size));have HZ6:=zh ((HB6.out.block _ hz2).trans HZ2.out);clear hb6;go_wp2_with fail;refine hK.out _ _ trivial fun _=>?_;clear hK K
  try simp only[Act.put,zu]
  refine zr 10 rfl (fun K hK=>?_);rw[if_pos (by rfl)];refine wp_store_row 42 _ _ rfl (b+1) _ rfl rfl 42 _ HZ6.out (aI (dP _ _ _ _)) (cE (dP _ _ _ _)) (cM _) ?_;refine hK.out _ _ trivial fun _=>?_;clear hK K
  try simp only[Act.put,zu]
  refine zd ?_ _;go_wp2_with fail;exact bodyPost_ret (results_cell_row (P:=Tryz.prog) rfl _ _ (b+1) 42 _ (0,0) _ rfl (setRow_heap _ _ _ _ _ _ HZ6.out) Tryz.underlying42 rfl (aI (dP _ _ _ _))) rfl ⟨rfl,by rw[HBZ.out];exact below_setRow (HB2.out.trans (HB6.out.mono zo)) zo _⟩
 ·have HO:=zh (RowB.drew w2 5 [c % 256,p % 256]);go_simp;generalize hw:World.drew (World.alloc w2 _)=w3;have wM:Hid (RowB w2 5 [c % 256,p % 256] w3):=by rw[←hw];exact HO.out
  clear hw HO;refine hK.out _ _ trivial fun _=>?_;clear hK K
  try simp only[Act.put,zu]
  refine zr 0 rfl (fun K hK=>?_);have HO:=zh (RowB.new w3 5 [4]);go_simp;generalize hw:World.alloc w3 _=w4;have wL:Hid (RowB w3 5 [4] w4):=by rw[←hw];exact HO.out
  clear hw HO;refine hK.out _ _ trivial fun _=>?_;clear hK K
  try simp only[Act.put,zu]
  have hs3:=wM.out.s;have hs4:=wL.out.s;have HB4:Hid (Bw w2 w4):=wM.out.b.trans (wL.out.b.mono zo);have HCH:=zh (show Calls _ _ _ _ (fun e w'=>e=.returned (.agg (hvA (iO x leaf c p)))∧Below w4.heap.size w4 w') from nN 4 x [lb1 leaf,lb0 leaf] [c % 256,p % 256] 2 w4 (w3.heap.size) b q (w2.heap.size) wL.out.r (HX2.out.below HB4.out hb2) (HQ2.out.below HB4.out hq2) (wM.out.r.below wL.out.b (by have:=wM.out.s;omega)) zo zo zo zo HS.out (by decide) (lY _ _) (lY _ _) rfl (HKK.out.below HB4.out hk2) zo);clear hs3 hs4;refine zr 8 rfl (fun K hK=>?_);go_simp;refine hK.out _ _ trivial fun _=>?_;clear hK K
  try simp only[Act.put,zu]
  refine zr 9 rfl (fun K hK=>?_);go_simp
  with_reducible refine HCH.out.mono ?_
  rintro e w6 ⟨rfl,hb6⟩;have HB6:=zh (HB4.out.trans (hb6.mono HB4.out.size));have HZ6:=zh ((HB6.out.block _ hz2).trans HZ2.out);clear hb6;go_wp2_with fail;refine hK.out _ _ trivial fun _=>?_;clear hK K
  try simp only[Act.put,zu]
  refine zr 10 rfl (fun K hK=>?_);rw[if_pos (by rfl)];refine wp_store_row 42 _ _ rfl (b+1) _ rfl rfl 42 _ HZ6.out (aI (dP _ _ _ _)) (cE (dP _ _ _ _)) (cM _) ?_;refine hK.out _ _ trivial fun _=>?_;clear hK K
  try simp only[Act.put,zu]
  refine zd ?_ _;go_wp2_with fail;exact bodyPost_ret (results_cell_row (P:=Tryz.prog) rfl _ _ (b+1) 42 _ (0,0) _ rfl (setRow_heap _ _ _ _ _ _ HZ6.out) Tryz.underlying42 rfl (aI (dP _ _ _ _))) rfl ⟨rfl,by rw[HBZ.out];exact below_setRow (HB2.out.trans (HB6.out.mono zo)) zo _⟩
end Go.Proofs.YtaeobegaodhpcaaGreatDoor
