/-
  The walks of the reference's ParseHalf and Parse (condition: the string's length is an int).
-/
import Derived.Test.YtaeobegaodhpcaaGreatDoorQ23
set_option maxRecDepth 100000
set_option maxHeartbeats 8000000
namespace Go.Proofs.YtaeobegaodhpcaaGreatDoor
open Go.RowKit
theorem EF (l:List UInt8) (n:Nat):(pby l n).length = n:=by unfold pby;split <;> simp [fO]
theorem OM {l:List UInt8} (h:13 < l.length):pnk l = false ∧ pnv l = 0:=by
 by_cases hz:lz l = true
 ·exact sD (.inr (.inl hz))
 ·by_cases hd:l.all isD = true
  ·have h0:l ≠ []:=fun e=>by rw [e] at h;exact absurd h (by decide)
   have hh:l.head? ≠ some 48:=fun e=>hz (by unfold lz;rw [e,decide_eq_true rfl,decide_eq_true (by omega)];rfl);have h1:=NI hd h0 hh;have h2:10 ^ 13 ≤ 10 ^ (l.length - 1):=Nat.pow_le_pow_right (by omega) (by omega);exact sD (.inr (.inr (.inr (by omega))))
  ·exact sD (.inr (.inr (.inl (by simpa using hd))))
end Go.Proofs.YtaeobegaodhpcaaGreatDoor
namespace Go.Proofs.YtaeobegaodhpcaaGreatDoor
open Go.RowKit Go.Proofs.YtaeobegaodhpcaaGreatDoor.One
theorem JD (l:List UInt8):H16 (pby l 16):=by
 refine ⟨EF l 16,?_⟩;unfold pby
 split
 ·rename_i h
  unfold pok at h;have h2:hok l 16 = true:=by
   cases hh:hok l 16 with
   | true=>rfl
   | false=>rw [hh,Bool.and_false] at h;cases h
  exact PK (UU h2)
 ·intro y hy;rw [List.mem_replicate] at hy;omega
def hpB (s:ByteArray):List Int:=pby s.data.toList 16
def hpK (s:ByteArray):Bool:=pok s.data.toList 16
def hdB (l:List ByteArray):ByteArray:=l.getD 0 ⟨#[]⟩
def rdK (l:List ByteArray):Bool:=decide (69 ≤ l.length ∧ l.length ≤ 75) && (pnk (hdB l).data.toList && (decide (pnv (hdB l).data.toList ≤ 65535) && (l.drop 1).all hpK))
def rdA (l:List ByteArray):Int:=if rdK l = true then pnv (hdB l).data.toList else 0
def rdC (l:List ByteArray):List (List Int):=if rdK l = true then ((l.drop 1).take 68).map hpB else []
def rdP (l:List ByteArray):List (List Int):=if rdK l = true then ((l.drop 1).drop 68).map hpB else []
def RdP (l:List ByteArray) (w:World) (e:Ending) (w':World):Prop :=
 ∃ sp1 c1 sp2 c2,e = .returned (.tuple #[.agg (siA (rdA l) (.slice sp1 (rdC l).length c1) (.slice sp2 (rdP l).length c2)),.bool (rdK l)]) ∧ OwnHv w' w.heap.size (.slice sp1 (rdC l).length c1) (rdC l) ∧ OwnHv w' w.heap.size (.slice sp2 (rdP l).length c2) (rdP l) ∧ Below w.heap.size w w'
theorem RdP.no {l:List ByteArray} {w:World} {e:Ending} {w':World} (hk:rdK l = false) (he:e = .returned (.tuple #[.agg (siA 0 aI aI),.bool false])) (hb:Below w.heap.size w w'):RdP l w e w':=by
 refine ⟨none,0,none,0,?_,?_,?_,hb⟩
 ·rw [he];unfold rdA rdC rdP;rw [hk];rfl
 ·unfold rdC;rw [hk];exact OwnHv.nil _ _
 ·unfold rdP;rw [hk];exact OwnHv.nil _ _
theorem RdP.yes {l:List ByteArray} {w:World} {e:Ending} {w':World} (hk:rdK l = true) {sp1 sp2:Option Addr} {n1 n2 c1 c2:Nat} (he:e = .returned (.tuple #[.agg (siA (pnv (hdB l).data.toList) (.slice sp1 n1 c1) (.slice sp2 n2 c2)),.bool true]))
 (h1:n1 = (((l.drop 1).take 68).map hpB).length) (h2:n2 = (((l.drop 1).drop 68).map hpB).length) (hc:OwnHv w' w.heap.size (.slice sp1 n1 c1) (((l.drop 1).take 68).map hpB)) (hp:OwnHv w' w.heap.size (.slice sp2 n2 c2) (((l.drop 1).drop 68).map hpB)) (hb:Below w.heap.size w w'):RdP l w e w':=by
 subst h1 h2;refine ⟨sp1,c1,sp2,c2,?_,?_,?_,hb⟩
 ·rw [he];unfold rdA rdC rdP;rw [if_pos hk,if_pos hk,if_pos hk,hk]
 ·unfold rdC;rw [if_pos hk];exact hc
 ·unfold rdP;rw [if_pos hk];exact hp
theorem IV {l:List ByteArray} (h:l.length < 69 ∨ 75 < l.length):rdK l = false:=by unfold rdK;rw [decide_eq_false (by omega)];rfl
theorem UA {l:List ByteArray} (h:pnk (hdB l).data.toList = false):rdK l = false:=by unfold rdK;rw [h];simp
theorem UB {l:List ByteArray} (h:65535 < pnv (hdB l).data.toList):rdK l = false:=by unfold rdK;rw [decide_eq_false (p:=pnv (hdB l).data.toList ≤ 65535) (by omega)];simp
theorem UC {l:List ByteArray} {j:Nat} (hj:j < (l.drop 1).length) (h:hpK ((l.drop 1)[j]) = false):rdK l = false:=by
 have:(l.drop 1).all hpK = false:=by rw [List.all_eq_false];exact ⟨_,List.getElem_mem hj,by rw [h];simp⟩
 unfold rdK;rw [this];simp
theorem IU {l:List ByteArray} (h1:69 ≤ l.length ∧ l.length ≤ 75) (h2:pnk (hdB l).data.toList = true) (h3:pnv (hdB l).data.toList ≤ 65535) (h4:(l.drop 1).all hpK = true):rdK l = true:=by unfold rdK;rw [decide_eq_true h1,h2,decide_eq_true h3,h4];rfl
theorem tkS {W:List ByteArray} {j:Nat} (hj:j < W.length):W.take (j + 1) = W.take j ++ [W[j]]:=by rw [List.take_add_one,List.getElem?_eq_getElem hj];rfl
theorem tkC1 {W:List ByteArray} {j:Nat} (hj:j < W.length) (h:j < 68):((W.take (j + 1)).take 68).map hpB = ((W.take j).take 68).map hpB ++ [hpB W[j]]:=by
 rw [List.take_of_length_le (by rw [List.length_take];omega),List.take_of_length_le (l:=W.take j) (by rw [List.length_take];omega),tkS hj,List.map_append];rfl
theorem tkP1 {W:List ByteArray} {j:Nat} (h:j ≤ 68):((W.take j).drop 68).map hpB = []:=by rw [List.drop_of_length_le (by rw [List.length_take];omega)];rfl
theorem tkC2 {W:List ByteArray} {j:Nat} (h:68 ≤ j):((W.take (j + 1)).take 68).map hpB = ((W.take j).take 68).map hpB:=by rw [List.take_take,List.take_take,Nat.min_eq_left (by omega),Nat.min_eq_left h]
theorem tkP2 {W:List ByteArray} {j:Nat} (hj:j < W.length) (h:68 ≤ j):((W.take (j + 1)).drop 68).map hpB = ((W.take j).drop 68).map hpB ++ [hpB W[j]]:=by
 rw [tkS hj,List.drop_append_of_le_length (by rw [List.length_take];omega),List.map_append];rfl
theorem tkA {W:List ByteArray} {j:Nat} (hj:j < W.length) (h:(W.take j).all hpK = true) (hk:hpK W[j] = true):(W.take (j + 1)).all hpK = true:=by rw [tkS hj,List.all_append,h];simp [hk]
structure RdS (w:World) (gs bp:Nat) (a:Int) (cv pv:Value) (cl pl:List (List Int)) (wr:World):Prop where
 z:wr.heap[w.heap.size]? = some (.cells (siA 0 aI aI) 48 (0,0))
 g:wr.heap[gs]? = some (.cells (siA a cv pv) 48 (0,0))
 c:OwnHv wr (w.heap.size + 1) cv cl
 p:OwnHv wr bp pv pl
 cb:(pl = [] ∧ pv = aI) ∨ (cv.ownBlock = none ∨ ∃ g,cv.ownBlock = some g ∧ g < bp)
 b:Below w.heap.size w wr
 i:w.heap.size < gs ∧ gs < wr.heap.size
 m:w.heap.size + 1 ≤ bp ∧ bp ≤ wr.heap.size
theorem RdS.below {w:World} {gs bp:Nat} {a:Int} {cv pv:Value} {cl pl:List (List Int)} {w1 w2:World} (r:RdS w gs bp a cv pv cl pl w1) (hb:Below w1.heap.size w1 w2):RdS w gs bp a cv pv cl pl w2:=by
 have h1:=r.i;have h2:=hb.size;have h3:=r.m;exact ⟨(hb.block _ (by omega)).trans r.z,(hb.block _ (by omega)).trans r.g,r.c.below hb,r.p.below hb,r.cb,r.b.trans (hb.mono (by omega)),by omega,by omega⟩
theorem RdS.addC {w:World} {gs bp:Nat} {a:Int} {cv cv':Value} {cl:List (List Int)} {y:List Int} {w1 w2:World} (r:RdS w gs bp a cv aI cl [] w1) (hb:Below (w.heap.size + 1) w1 w2) (hg:w1.grownBy w2 cv.ownBlock) (ho:OwnHv w2 (w.heap.size + 1) cv' (cl ++ [y])) :
 (w2.heap[gs]? = some (.cells (siA a cv aI) 48 (0,0))) ∧ RdS w gs bp a cv' aI (cl ++ [y]) [] (w2.setCell ⟨gs,1,none⟩ cv'):=by
 have hp:=r.c.apart r.g iK;have h1:=r.i;have h2:=hb.size;have h3:=r.m;have hg2:w2.heap[gs]? = some (.cells (siA a cv aI) 48 (0,0)):=by
  refine (hg.block _ r.i.2 (fun e=>?_)).trans r.g;rcases hp with hp | hp
  ·rw [hp] at e;cases e
  ·exact hp e.symm
 refine ⟨hg2,(heap_setCell_other _ _ _ _ (by show w.heap.size ≠ gs;omega)).trans ((hb.block _ (by omega)).trans r.z),?_,ho.setCell hg2 iK _ _,OwnHv.nil _ _,.inl ⟨rfl,rfl⟩,(r.b.trans (hb.mono (by omega))).setCell (by show w.heap.size ≤ gs;omega) _,?_,?_⟩
 ·rw [heap_setCell_same _ _ _ _ _ _ hg2];rfl
 ·simp [World.setCell];omega
 ·simp [World.setCell];omega
theorem RdS.apartP {w:World} {gs bp:Nat} {a:Int} {cv pv:Value} {cl pl:List (List Int)} {w1:World} (r:RdS w gs bp a cv pv cl pl w1):∃ bq,RdS w gs bq a cv pv cl pl w1 ∧ (cv.ownBlock = none ∨ ∃ g,cv.ownBlock = some g ∧ g < bq):=by
 rcases r.cb with ⟨e1,e2⟩ | hc
 ·refine ⟨w1.heap.size,⟨r.z,r.g,r.c,?_,.inl ⟨e1,e2⟩,r.b,r.i,by have:=r.m;omega⟩,?_⟩
  ·rw [e1,e2];exact OwnHv.nil _ _
  ·rcases r.c.blockK with h0 | ⟨g,h0,_,h1⟩
   ·exact .inl h0
   ·exact .inr ⟨g,h0,h1⟩
 ·exact ⟨bp,r,hc⟩
theorem RdS.addP {w:World} {gs bp:Nat} {a:Int} {cv pv pv':Value} {cl pl:List (List Int)} {y:List Int} {w1 w2:World} (r:RdS w gs bp a cv pv cl pl w1) (hc:cv.ownBlock = none ∨ ∃ g,cv.ownBlock = some g ∧ g < bp) (hb:Below bp w1 w2) (hg:w1.grownBy w2 pv.ownBlock) (ho:OwnHv w2 bp pv' (pl ++ [y])) :
 (w2.heap[gs]? = some (.cells (siA a cv pv) 48 (0,0))) ∧ RdS w gs bp a cv pv' cl (pl ++ [y]) (w2.setCell ⟨gs,2,none⟩ pv'):=by
 have hp:=r.p.apart r.g iK;have h1:=r.i;have h2:=hb.size;have h3:=r.m;have hg2:w2.heap[gs]? = some (.cells (siA a cv pv) 48 (0,0)):=by
  refine (hg.block _ r.i.2 (fun e=>?_)).trans r.g;rcases hp with hp | hp
  ·rw [hp] at e;cases e
  ·exact hp e.symm
 have hcc:OwnHv w2 (w.heap.size + 1) cv cl:=by
  refine r.c.keptK hg ?_;rcases hc with hc | ⟨gc,hc,hlt⟩
  ·exact .inl hc
  ·rcases r.p.blockK with h0 | ⟨gp,h0,h1,h2⟩
   ·rw [hc,h0];exact .inr (by simp)
   ·rw [hc,h0];exact .inr (by intro e;injection e with e;omega)
 refine ⟨hg2,(heap_setCell_other _ _ _ _ (by show w.heap.size ≠ gs;omega)).trans ((hb.block _ (by omega)).trans r.z),?_,hcc.setCell hg2 iK _ _,ho.setCell hg2 iK _ _,.inr hc,(r.b.trans (hb.mono (by omega))).setCell (by show w.heap.size ≤ gs;omega) _,?_,?_⟩
 ·rw [heap_setCell_same _ _ _ _ _ _ hg2];rfl
 ·simp [World.setCell];omega
 ·simp [World.setCell];omega
end Go.Proofs.YtaeobegaodhpcaaGreatDoor
