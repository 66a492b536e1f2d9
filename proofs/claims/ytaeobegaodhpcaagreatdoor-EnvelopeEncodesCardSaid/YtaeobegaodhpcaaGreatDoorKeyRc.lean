/-
  Keys of many one-time keys: a public key and a signer are equal to themselves.
-/
import Derived.Test.YtaeobegaodhpcaaGreatDoorQ14
import Derived.Laws.StructEq
set_option maxRecDepth 100000
set_option maxHeartbeats 8000000
namespace Go.Proofs.YtaeobegaodhpcaaGreatDoor
open Go.RowKit Go.Proofs.YtaeobegaodhpcaaGreatDoor.One
theorem KW {t e:TypeId} {n:Nat} (hu:Tryz.prog.underlying t=some (.array n e)) (pre d post:List Value) (off:Nat) (hp:pre.length=off) (hs:(Tryz.prog.info? t).map (·.size)=some d.length) (w:World):(part t (pre++(d++post)).toArray off).run Tryz.prog w=.ok (.agg d.toArray) w:=by
 have hz:(sizeOf t).run Tryz.prog w=.ok d.length w:=by
  cases hi:Tryz.prog.info? t with
  | none=>rw[hi] at hs;cases hs
  | some i =>
    rw[hi] at hs;have:i.size=d.length:=by injection hs
    simp[sizeOf,typeInfo,hi,this]
 have hu':=run_underlying (w:=w) hu;simp only[part,isAgg,Sem.run_bind,hu',Result.andThen_ok,Sem.run_pure,if_true,hz];subst hp;congr 2;rw[List.extract_toArray,List.extract_eq_take_drop,List.drop_left,show pre.length+d.length-pre.length=d.length by omega,List.take_left]
theorem KX (pre post:List Value) (x:Int) (off:Nat) (hp:pre.length=off) (w:World):(part 3 (pre++(.int .i64 x :: post)).toArray off).run Tryz.prog w=.ok (.int .i64 x) w:=by
 have hu:(underlying 3).run Tryz.prog w=.ok (.int .i64) w:=run_underlying Tryz.underlying3 w;subst hp;simp[part,isAgg,hu]
theorem twoK {l:List Field} {n1 n2:String} {t1 t2 o1 o2:Nat} (h:l.map (fun f=>(f.name,f.type,f.offset))=[(n1,t1,o1),(n2,t2,o2)]) :
 ∃ f g:Field,l=[f,g]∧(f.name=n1∧f.type=t1∧f.offset=o1)∧(g.name=n2∧g.type=t2∧g.offset=o2):=by
 match l,h with
 | [f,g],h=>simp at h;exact⟨f,g,rfl,h.1,h.2⟩
theorem zV {d : Nat} {xs ys : Array Value} {f : Field} {fs : List Field} {a b : Value} {r : Bool} {w : World} (hn : f.name ≠ "_") (ha : (part f.type xs f.offset).run Tryz.prog w = .ok a w) (hb : (part f.type ys f.offset).run Tryz.prog w = .ok b w) (hr : (Op.equalIn d f.type a b).run Tryz.prog w = .ok r w) {q : Bool}
 (hq:(Op.eqFields d xs ys fs).run Tryz.prog w=.ok q w):(Op.eqFields d xs ys (f :: fs)).run Tryz.prog w=.ok (r && q) w:=by
 simp only[Op.eqFields,hn,ne_eq,not_false_eq_true,if_true,Sem.run_bind,ha,hb,hr,Result.andThen_ok]
 cases r
 ·simp
 ·simpa using hq
theorem GR {X:List Int} (hX:X.length=16) (d:Nat) (w:World):(Op.equalIn (d+2) 42 (.agg (X.map (Value.int .u8)).toArray) (.agg (X.map (Value.int .u8)).toArray)).run Tryz.prog w=.ok true w:=by
 have hc:Tryz.prog.cellsOf 5=1:=by kernel_rfl
 obtain⟨i,hi⟩:∃ i,Tryz.prog.info? 5=some i:=Option.isSome_iff_exists.1 (by kernel_rfl);have h:=run_equalIn_array (P:=Tryz.prog) w (d+1) (X.map (Value.int .u8)).toArray (X.map (Value.int .u8)).toArray Tryz.underlying42 hi;rw[hc] at h;have e:=vT d X X (List.range 16) w (fun j hj=>by rw[hX];simpa using hj);have r:=pZ X X zo;rw[hX] at r;rw[r] at e;rw[e] at h;rw[h,decide_eq_true rfl]
theorem MQ (d:Nat) (a:Int) (w:World):(Op.equalIn (d+1) 3 (.int .i64 a) (.int .i64 a)).run Tryz.prog w=.ok true w:=by
 rw[run_equalIn_int w d _ _ _ a a Tryz.underlying3];simp
theorem QP : (Tryz.prog.fieldsOf 44).toList.map (fun f => (f.name, f.type, f.offset)) = [("Height", 3, 0), ("Root", 42, 1)] := by kernel_rfl
theorem eqPk (h:Int) (r:List Int) (hr:H16 r) (w:World):(Op.equalIn 10000 44 (.agg (pkA h r)) (.agg (pkA h r))).run Tryz.prog w=.ok true w:=by
 rw[run_equalIn_struct w 9999 _ _ _ (by kernel_rfl) (by kernel_rfl)];obtain⟨f,g,e,⟨f1,f2,f3⟩,⟨g1,g2,g3⟩⟩:=twoK QP;rw[e];have p0:(part 3 (pkA h r) 0).run Tryz.prog w=.ok (.int .i64 h) w:=KX [] (r.map (Value.int .u8)) h 0 rfl w;have p1:(part 42 (pkA h r) 1).run Tryz.prog w=.ok (.agg (r.map (Value.int .u8)).toArray) w:=by
  have:=KW Tryz.underlying42 [.int .i64 h] (r.map (Value.int .u8)) [] 1 rfl (bS hr) w;rw[List.append_nil] at this;exact this
 exact zV (d:=9999) (by rw[f1];decide) (by rw[f2,f3];exact p0) (by rw[f2,f3];exact p0) (by rw[f2];exact MQ 9998 h w)
  (zV (by rw[g1];decide) (by rw[g2,g3];exact p1) (by rw[g2,g3];exact p1) (by rw[g2];exact GR hr.1 9997 w) (show (Op.eqFields 9999 _ _ []).run _ w=.ok true w by simp[Op.eqFields]))
end Go.Proofs.YtaeobegaodhpcaaGreatDoor
