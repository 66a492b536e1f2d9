/-
  Plain mathematics, without conditions: SHA-256 on lists of numbers, as this claim's proofs use it (no program is named here).
-/
import Derived.Test.YtcligodahogpkaaGreatDoorZip
import GoSem.Claim
import Derived.WalkKit
import Derived.Test.YtcligodahogpkaaGreatDoorProg
import Derived.WalkSpells
import Derived.WalkLawsBesides
import Derived.BigRegion
import Derived.Deep.QuietTactic
import Derived.BigQuiet
import Derived.Lib.Hide
import Derived.Deep.MidRow
import Derived.Laws.CopyOwn
import Derived.Deep.RegionLaw
import Derived.ChangeKeysEq
import Derived.Laws.AppendOwnNone
set_option maxRecDepth 100000
set_option maxHeartbeats 8000000
namespace Go.Proofs.YtcligodahogpkaaGreatDoor
open Go
def rot (a b x : Int) : Int := bits .or .u32 (x / a) (x * b % 4294967296)
def xr (a b : Int) : Int := bits .xor .u32 a b
def an (a b : Int) : Int := bits .and .u32 a b
def ad (a b : Int) : Int := (a + b) % 4294967296
def chs (x y z : Int) : Int := xr (an x y) (an (xr IntKind.u32.max x) z)
def mjr (x y z : Int) : Int := xr (xr (an x y) (an x z)) (an y z)
def big0 (x : Int) : Int := xr (xr (rot 4 1073741824 x) (rot 8192 524288 x)) (rot 4194304 1024 x)
def big1 (x : Int) : Int := xr (xr (rot 64 67108864 x) (rot 2048 2097152 x)) (rot 33554432 128 x)
def sm0 (x : Int) : Int := xr (xr (rot 128 33554432 x) (rot 262144 16384 x)) (x / 8)
def sm1 (x : Int) : Int := xr (xr (rot 131072 32768 x) (rot 524288 8192 x)) (x / 1024)
structure St where
 a : Int
 b : Int
 c : Int
 d : Int
 e : Int
 f : Int
 g : Int
 h : Int
def St.list (s : St) : List Int := [s.a, s.b, s.c, s.d, s.e, s.f, s.g, s.h]
theorem St.list_length (s : St) : s.list.length = 8 := rfl
def tOne (k w : Int) (s : St) : Int := ad (ad (ad (ad s.h (big1 s.e)) (chs s.e s.f s.g)) k) w
def tTwo (s : St) : Int := ad (big0 s.a) (mjr s.a s.b s.c)
def rnd (k w : Int) (s : St) : St := ⟨ad (tOne k w s) (tTwo s), s.a, s.b, s.c, ad s.d (tOne k w s), s.e, s.f, s.g⟩
def kay : List Int := [1116352408, 1899447441, 3049323471, 3921009573, 961987163, 1508970993, 2453635748, 2870763221, 3624381080, 310598401, 607225278, 1426881987, 1925078388, 2162078206, 2614888103, 3248222580, 3835390401, 4022224774, 264347078, 604807628, 770255983, 1249150122, 1555081692, 1996064986, 2554220882, 2821834349, 2952996808, 3210313671, 3336571891, 3584528711, 113926993, 338241895, 666307205, 773529912, 1294757372, 1396182291, 1695183700, 1986661051, 2177026350, 2456956037, 2730485921, 2820302411, 3259730800, 3345764771, 3516065817, 3600352804, 4094571909, 275423344, 430227734, 506948616, 659060556, 883997877, 958139571, 1322822218, 1537002063, 1747873779, 1955562222, 2024104815, 2227730452, 2361852424, 2428436474, 2756734187, 3204031479, 3329325298]
theorem kC : kay.length = 64 := rfl
def FL (W : List Int) (s : St) : Nat → St
 | 0 => s
 | n + 1 => rnd (kay.getD n 0) (W.getD n 0) (FL W s n)
def wd (p : List Int) (i : Nat) : Int :=
 bits .or .u32 (bits .or .u32 (bits .or .u32 (p.getD (4 * i) 0 * 16777216) (p.getD (4 * i + 1) 0 * 65536)) (p.getD (4 * i + 2) 0 * 256)) (p.getD (4 * i + 3) 0)
def msg (p : List Int) (n : Nat) : List Int := (List.range n).map (wd p)
theorem bX (p : List Int) (n : Nat) : (msg p n).length = n := by simp [msg]
theorem xR (p : List Int) (n : Nat) : msg p (n + 1) = msg p n ++ [wd p n] := by simp [msg, List.range_succ]
def vD (l : List Int) (n : Nat) : Int := ad (ad (ad (l.getD n 0) (sm0 (l.getD (n + 1) 0))) (l.getD (n + 9) 0)) (sm1 (l.getD (n + 14) 0))
def dD (m : List Int) : Nat → List Int
 | 0 => m
 | n + 1 => dD m n ++ [vD (dD m n) n]
theorem cI (m : List Int) (n : Nat) : (dD m n).length = m.length + n := by
 induction n with
 | zero => rfl
 | succ n ih => simp [dD, ih]; omega
def iJ (p : List Int) : List Int := dD (msg p 16) 48
theorem hU (p : List Int) : (iJ p).length = 64 := by simp [iJ, cI, bX]
def oC (h : St) (p : List Int) : St :=
 let s := FL (iJ p) h 64
 ⟨ad h.a s.a, ad h.b s.b, ad h.c s.c, ad h.d s.d, ad h.e s.e, ad h.f s.f, ad h.g s.g, ad h.h s.h⟩
def iv : St := ⟨1779033703, 3144134277, 1013904242, 2773480762, 1359893119, 2600822924, 528734635, 1541459225⟩
def pN : Nat → St → List Int → St
 | 0, s, _ => s
 | n + 1, s, p => pN n (oC s (p.take 64)) (p.drop 64)
def aU (n : Nat) (l : List Int) : List Int := l ++ List.replicate (n - l.length) 0
theorem cU (n : Nat) (l : List Int) (h : l.length ≤ n) : (aU n l).length = n := by simp [aU]; omega
theorem gI (n : Nat) (l : List Int) (h : l.length = n) : aU n l = l := by simp [aU, h]
theorem dX (n : Nat) (l : List Int) (i : Nat) (h : i < l.length) : (aU n l).getD i 0 = l.getD i 0 := by
 simp [aU, List.getD_eq_getElem?_getD, List.getElem?_append_left h]
theorem eP (n : Nat) (l : List Int) (v : Int) (h : l.length < n) : (aU n l).set l.length v = aU n (l ++ [v]) := by
 unfold aU
 rw [List.set_append_right _ _ (Nat.le_refl _)]
 obtain ⟨m, hm⟩ : ∃ m, n - l.length = m + 1 := ⟨n - l.length - 1, by omega⟩
 have h2 : n - (l ++ [v]).length = m := by simp; omega
 rw [hm, h2, Nat.sub_self, List.replicate_succ, List.set_cons_zero]
 simp
end Go.Proofs.YtcligodahogpkaaGreatDoor
namespace Go.Proofs.YtcligodahogpkaaGreatDoor
open Go.RowKit
theorem eJ (a b : Int) : bits .or .u32 a b = bits .or .u32 b a := by
 show IntKind.u32.wrap ((BitVec.ofInt 32 a ||| BitVec.ofInt 32 b).toNat : Int) = IntKind.u32.wrap ((BitVec.ofInt 32 b ||| BitVec.ofInt 32 a).toNat : Int)
 rw [BitVec.or_comm]
theorem iE {a b : Int} (h : a = b) : Ending.returned (.int .u32 a) = .returned (.int .u32 b) := by rw [h]
theorem OB (x : Int) (w : World) :
 Calls Tryz.prog 191 #[.int .u32 x, .int .i64 (-2)] w fun e w' => e = .returned (.int .u32 (rot 4 1073741824 x)) ∧ w = w' := by
 have e : bits BinOp.and IntKind.u64 (IntKind.u64.wrap (-2)) 31 = 30 := by decide +kernel
 go_enter Tryz.func191, Tryz.ntmps191
 go_wp2
 go_ret
 exact ⟨iE (eJ _ _), rfl⟩
theorem OA (x : Int) (w : World) :
 Calls Tryz.prog 191 #[.int .u32 x, .int .i64 (-6)] w fun e w' => e = .returned (.int .u32 (rot 64 67108864 x)) ∧ w = w' := by
 have e : bits BinOp.and IntKind.u64 (IntKind.u64.wrap (-6)) 31 = 26 := by decide +kernel
 go_enter Tryz.func191, Tryz.ntmps191
 go_wp2
 go_ret
 exact ⟨iE (eJ _ _), rfl⟩
theorem NZ (x : Int) (w : World) :
 Calls Tryz.prog 191 #[.int .u32 x, .int .i64 (-7)] w fun e w' => e = .returned (.int .u32 (rot 128 33554432 x)) ∧ w = w' := by
 have e : bits BinOp.and IntKind.u64 (IntKind.u64.wrap (-7)) 31 = 25 := by decide +kernel
 go_enter Tryz.func191, Tryz.ntmps191
 go_wp2
 go_ret
 exact ⟨iE (eJ _ _), rfl⟩
theorem KS (x : Int) (w : World) :
 Calls Tryz.prog 191 #[.int .u32 x, .int .i64 (-11)] w fun e w' => e = .returned (.int .u32 (rot 2048 2097152 x)) ∧ w = w' := by
 have e : bits BinOp.and IntKind.u64 (IntKind.u64.wrap (-11)) 31 = 21 := by decide +kernel
 go_enter Tryz.func191, Tryz.ntmps191
 go_wp2
 go_ret
 exact ⟨iE (eJ _ _), rfl⟩
theorem KR (x : Int) (w : World) :
 Calls Tryz.prog 191 #[.int .u32 x, .int .i64 (-13)] w fun e w' => e = .returned (.int .u32 (rot 8192 524288 x)) ∧ w = w' := by
 have e : bits BinOp.and IntKind.u64 (IntKind.u64.wrap (-13)) 31 = 19 := by decide +kernel
 go_enter Tryz.func191, Tryz.ntmps191
 go_wp2
 go_ret
 exact ⟨iE (eJ _ _), rfl⟩
theorem KQ (x : Int) (w : World) :
 Calls Tryz.prog 191 #[.int .u32 x, .int .i64 (-17)] w fun e w' => e = .returned (.int .u32 (rot 131072 32768 x)) ∧ w = w' := by
 have e : bits BinOp.and IntKind.u64 (IntKind.u64.wrap (-17)) 31 = 15 := by decide +kernel
 go_enter Tryz.func191, Tryz.ntmps191
 go_wp2
 go_ret
 exact ⟨iE (eJ _ _), rfl⟩
theorem KP (x : Int) (w : World) :
 Calls Tryz.prog 191 #[.int .u32 x, .int .i64 (-18)] w fun e w' => e = .returned (.int .u32 (rot 262144 16384 x)) ∧ w = w' := by
 have e : bits BinOp.and IntKind.u64 (IntKind.u64.wrap (-18)) 31 = 14 := by decide +kernel
 go_enter Tryz.func191, Tryz.ntmps191
 go_wp2
 go_ret
 exact ⟨iE (eJ _ _), rfl⟩
theorem KO (x : Int) (w : World) :
 Calls Tryz.prog 191 #[.int .u32 x, .int .i64 (-19)] w fun e w' => e = .returned (.int .u32 (rot 524288 8192 x)) ∧ w = w' := by
 have e : bits BinOp.and IntKind.u64 (IntKind.u64.wrap (-19)) 31 = 13 := by decide +kernel
 go_enter Tryz.func191, Tryz.ntmps191
 go_wp2
 go_ret
 exact ⟨iE (eJ _ _), rfl⟩
theorem KN (x : Int) (w : World) :
 Calls Tryz.prog 191 #[.int .u32 x, .int .i64 (-22)] w fun e w' => e = .returned (.int .u32 (rot 4194304 1024 x)) ∧ w = w' := by
 have e : bits BinOp.and IntKind.u64 (IntKind.u64.wrap (-22)) 31 = 10 := by decide +kernel
 go_enter Tryz.func191, Tryz.ntmps191
 go_wp2
 go_ret
 exact ⟨iE (eJ _ _), rfl⟩
theorem KM (x : Int) (w : World) :
 Calls Tryz.prog 191 #[.int .u32 x, .int .i64 (-25)] w fun e w' => e = .returned (.int .u32 (rot 33554432 128 x)) ∧ w = w' := by
 have e : bits BinOp.and IntKind.u64 (IntKind.u64.wrap (-25)) 31 = 7 := by decide +kernel
 go_enter Tryz.func191, Tryz.ntmps191
 go_wp2
 go_ret
 exact ⟨iE (eJ _ _), rfl⟩
theorem FU (x : Int) (w : World) :
 Calls Tryz.prog 179 #[.int .u32 x, .int .i64 6, .int .i64 11, .int .i64 25] w fun e w' => e = .returned (.int .u32 (big1 x)) ∧ w = w' := by
 go_enter Tryz.func179, Tryz.ntmps179
 go_wp2_with (first | (go_at_call 191; (with_reducible refine (OA _ _).mono ?_); rintro e w' ⟨rfl, rfl⟩) | (go_at_call 191; (with_reducible refine (KS _ _).mono ?_); rintro e w' ⟨rfl, rfl⟩) | (go_at_call 191; (with_reducible refine (KM _ _).mono ?_); rintro e w' ⟨rfl, rfl⟩))
 go_ret
 exact ⟨rfl, rfl⟩
theorem FV (x : Int) (w : World) :
 Calls Tryz.prog 179 #[.int .u32 x, .int .i64 2, .int .i64 13, .int .i64 22] w fun e w' => e = .returned (.int .u32 (big0 x)) ∧ w = w' := by
 go_enter Tryz.func179, Tryz.ntmps179
 go_wp2_with (first | (go_at_call 191; (with_reducible refine (OB _ _).mono ?_); rintro e w' ⟨rfl, rfl⟩) | (go_at_call 191; (with_reducible refine (KR _ _).mono ?_); rintro e w' ⟨rfl, rfl⟩) | (go_at_call 191; (with_reducible refine (KN _ _).mono ?_); rintro e w' ⟨rfl, rfl⟩))
 go_ret
 exact ⟨rfl, rfl⟩
theorem AD (x y z : Int) (w : World) :
 Calls Tryz.prog 180 #[.int .u32 x, .int .u32 y, .int .u32 z] w fun e w' => e = .returned (.int .u32 (chs x y z)) ∧ w = w' := by
 go_enter Tryz.func180, Tryz.ntmps180
 go_wp2
 go_ret
 exact ⟨rfl, rfl⟩
theorem tW (x y z : Int) (w : World) :
 Calls Tryz.prog 181 #[.int .u32 x, .int .u32 y, .int .u32 z] w fun e w' => e = .returned (.int .u32 (mjr x y z)) ∧ w = w' := by
 go_enter Tryz.func181, Tryz.ntmps181
 go_wp2
 go_ret
 exact ⟨rfl, rfl⟩
theorem gH {w : World} {g j : Nat} {L : List Value} {t : TypeId} {fr : Nat × Nat} {v : Value} (hg : w.heap[g]? = some (.cells L.toArray t fr)) (hv : L[j]? = some v) : w.cell? ⟨g, j, none⟩ = some v := by
 rw [cell_of_row w g j _ t fr hg]; simpa using hv
theorem fZ {α β : Type} (l : List α) (f : α → β) (i : Nat) (d : α) (h : i < l.length) : (l.map f)[i]? = some (f (l.getD i d)) := by
 simp [List.getD_eq_getElem?_getD, List.getElem?_eq_getElem h]
def RowIn (w : World) (b : Nat) (t : TypeId) (k : IntKind) (L : List Int) : Prop := w.heap[b]? = some (.cells (L.map (Value.int k)).toArray t (0, 0))
theorem RowIn.get {w : World} {b : Nat} {t : TypeId} {k : IntKind} {L : List Int} (h : RowIn w b t k L) (i : Nat) (hi : i < L.length) : w.cell? ⟨b, i, none⟩ = some (.int k (L.getD i 0)) :=
 gH h (fZ _ _ _ _ hi)
theorem RowIn.free {w : World} {b : Nat} {t : TypeId} {k : IntKind} {L : List Int} (h : RowIn w b t k L) (i : Nat) : w.frozen? ⟨b, i, none⟩ = false := frozen_of_row _ _ _ _ _ h
theorem RowIn.put {w : World} {b : Nat} {t : TypeId} {k : IntKind} {L : List Int} (h : RowIn w b t k L) (i : Nat) (v : Int) : RowIn (w.setCell ⟨b, i, none⟩ (.int k v)) b t k (L.set i v) := by
 unfold RowIn; rw [heap_setCell_same _ _ _ _ _ _ h]; simp [List.map_set]
theorem RowIn.put_other {w : World} {b : Nat} {t : TypeId} {k : IntKind} {L : List Int} (h : RowIn w b t k L) (a : Addr) (v : Value) (ha : b ≠ a.block) : RowIn (w.setCell a v) b t k L := by
 unfold RowIn; rw [heap_setCell_other _ _ _ _ ha]; exact h
theorem RowIn.drew {w : World} {b : Nat} {t : TypeId} {k : IntKind} {L : List Int} (h : RowIn w b t k L) : RowIn w.drew b t k L := h
theorem RowIn.lt {w : World} {b : Nat} {t : TypeId} {k : IntKind} {L : List Int} (h : RowIn w b t k L) : b < w.heap.size := by
 unfold RowIn at h; exact (Array.getElem?_eq_some_iff.1 h).1
theorem RowIn.alloc {w : World} {b : Nat} {t : TypeId} {k : IntKind} {L : List Int} (h : RowIn w b t k L) (o : Obj) : RowIn (w.alloc o) b t k L := by
 exact (heap_alloc_old w o h.lt).trans h
theorem RowIn.below {w w' : World} {b B : Nat} {t : TypeId} {k : IntKind} {L : List Int} (h : RowIn w b t k L) (hb : Below B w w') (hlt : b < B) : RowIn w' b t k L := by
 unfold RowIn; rw [hb.block b hlt]; exact h
theorem RowIn.setRow {w : World} {b : Nat} {t : TypeId} {k : IntKind} {L : List Int} (h : RowIn w b t k L) (M : List Int) : RowIn (w.setRow b (M.map (Value.int k)).toArray) b t k M := setRow_heap _ _ _ _ _ _ h
theorem bE (k : IntKind) (L : List Int) : (L.map (Value.int k)).toArray.all (·.oneCell') = true :=
 all_oneCell_toArray (fun v hv => by simp at hv; obtain ⟨n, _, rfl⟩ := hv; rfl)
structure SchedAt (B : Nat) (w wr : World) (L : List Int) : Prop where
 row : RowIn wr (B + 1) 167 .u32 L
 res : RowIn wr B 167 .u32 (List.replicate 64 0)
 bel : Below B w wr
 size : wr.heap.size = B + 2
theorem SchedAt.start (w : World) : SchedAt w.heap.size w ((w.alloc (.cells (Array.replicate 64 (Value.int .u32 0)) 167)).alloc (.cells (Array.replicate 64 (Value.int .u32 0)) 167)) (aU 64 []) :=
 ⟨heap_alloc2_new _ _ _, heap_alloc2_old _ _ _, ((Below.refl _ _).alloc (Nat.le_refl _) _).alloc (by simp) _, by simp⟩
theorem SchedAt.drew {B : Nat} {w wr : World} {L : List Int} (h : SchedAt B w wr L) : SchedAt B w wr.drew L := ⟨h.row, h.res, h.bel.drew, h.size⟩
theorem SchedAt.drewN {B : Nat} {w wr : World} {L : List Int} (h : SchedAt B w wr L) (n : Nat) : SchedAt B w (wr.drewN n) L := ⟨h.row, h.res, below_drewN h.bel n, h.size⟩
theorem SchedAt.put {B : Nat} {w wr : World} {L : List Int} (h : SchedAt B w wr L) (i : Nat) (v : Int) : SchedAt B w (wr.setCell ⟨B + 1, i, none⟩ (.int .u32 v)) (L.set i v) :=
 ⟨h.row.put i v, h.res.put_other _ _ (by simp), h.bel.setCell (by simp) _, by simp [World.setCell, h.size]⟩
theorem SchedAt.step {B : Nat} {w wr : World} {l : List Int} (h : SchedAt B w wr (aU 64 l)) (hl : l.length < 64) (v : Int) : SchedAt B w (wr.setCell ⟨B + 1, l.length, none⟩ (.int .u32 v)) (aU 64 (l ++ [v])) := by
 rw [← eP _ _ _ hl]; exact h.put _ _
def IC (B : Nat) (w : World) (p : List Int) (e : Ending) (w' : World) : Prop := e = .returned (.agg ((iJ p).map (Value.int .u32)).toArray) ∧ Below B w w'
theorem Tryz.info64u : (Tryz.prog.info? 167).map (·.size) = some 64 := by kernel_rfl
theorem tB (bb off cap : Nat) (p : List Int) (w : World) (hcap : 64 ≤ cap)
 (hc : ∀ j, j < 64 → w.cell? ⟨bb, off + j, none⟩ = some (.int .u8 (p.getD j 0))) (hbb : bb < w.heap.size)
 (hp : ∀ j, 0 ≤ p.getD j 0 ∧ p.getD j 0 < 256) :
  Calls Tryz.prog 178 #[.slice (some ⟨bb, off, none⟩) 64 cap] w (IC w.heap.size w p) := by
 have HC := zh hc; clear hc
 have HP := zh hp; clear hp
 go_enter Tryz.func178, Tryz.ntmps178
 go_wp2
 go_loopw [11] (fun i wr => ∃ k : Nat, k ≤ 16 ∧ i = .int .i64 k ∧ SchedAt w.heap.size w wr (aU 64 (msg p k))) (fun i _ => 16 - (intOf i).toNat)
 case atStart => exact ⟨0, by omega, rfl, SchedAt.start w⟩
 case round =>
  obtain ⟨k, hk, rfl, hS⟩ := hrel
  by_cases hlt : k < 16
  ·have c0 : wr.cell? ⟨bb, off + 4 * k, none⟩ = some (.int .u8 (p.getD (4 * k) 0)) := (hS.bel.cell (p := ⟨bb, off + 4 * k, none⟩) hbb).trans (HC.out (4 * k) (by omega))
   have c1 : wr.cell? ⟨bb, off + 4 * k + 1, none⟩ = some (.int .u8 (p.getD (4 * k + 1) 0)) := (hS.bel.cell (p := ⟨bb, off + 4 * k + 1, none⟩) hbb).trans (HC.out (4 * k + 1) (by omega))
   have c2 : wr.cell? ⟨bb, off + 4 * k + 2, none⟩ = some (.int .u8 (p.getD (4 * k + 2) 0)) := (hS.bel.cell (p := ⟨bb, off + 4 * k + 2, none⟩) hbb).trans (HC.out (4 * k + 2) (by omega))
   have c3 : wr.cell? ⟨bb, off + 4 * k + 3, none⟩ = some (.int .u8 (p.getD (4 * k + 3) 0)) := (hS.bel.cell (p := ⟨bb, off + 4 * k + 3, none⟩) hbb).trans (HC.out (4 * k + 3) (by omega))
   have b0 := HP.out (4 * k)
   have b1 := HP.out (4 * k + 1)
   have b2 := HP.out (4 * k + 2)
   have b3 := HP.out (4 * k + 3)
   generalize e0 : p.getD (4 * k) 0 = x0 at *
   generalize e1 : p.getD (4 * k + 1) 0 = x1 at *
   generalize e2 : p.getD (4 * k + 2) 0 = x2 at *
   generalize e3 : p.getD (4 * k + 3) 0 = x3 at *
   have E : Hid (wd p k = bits .or .u32 (bits .or .u32 (bits .or .u32 (x0 * 16777216) (x1 * 65536)) (x2 * 256)) x3) := by
    subst e0 e1 e2 e3; rfl
   clear e0 e1 e2 e3
   have hl : (aU 64 (msg p k)).length = 64 := cU _ _ (by rw [bX]; omega)
   have ct := hS.row.get k (by omega)
   have cf := hS.row.free k
   clear hl
   go_wp2
   go_region
   go_wp2
   go_roundw
   case rel =>
    refine ⟨k + 1, by omega, by go_num, ?_⟩
    have hs := (hS.step (by rw [bX]; omega) (wd p k)).drew
    rw [bX, ← xR, E.out] at hs
    exact hs
   case measure => simp [intOf]; omega
  ·obtain rfl : k = 16 := by omega
   rw [show ((16 : Nat) : Int) = 16 from rfl]
   go_wp2
   go_loopw [6] (fun i wr => ∃ k : Nat, k ≤ 48 ∧ i = .int .i64 ((k : Int) + 16) ∧ SchedAt w.heap.size w wr (aU 64 (dD (msg p 16) k))) (fun i _ => 64 - (intOf i).toNat)
   case atStart => exact ⟨0, by omega, rfl, hS⟩
   case round =>
    clear hS
    obtain ⟨k, hk, rfl, hS⟩ := hrel
    by_cases hlt : k < 48
    ·have hl : (aU 64 (dD (msg p 16) k)).length = 64 := cU _ _ (by rw [cI, bX]; omega)
     have c0 := hS.row.get k (by omega)
     have c1 := hS.row.get (k + 1) (by omega)
     have c9 := hS.row.get (k + 9) (by omega)
     have c14 := hS.row.get (k + 14) (by omega)
     have c16 := hS.row.get (k + 16) (by omega)
     have cf := hS.row.free (k + 16)
     have E : Hid (vD (dD (msg p 16) k) k = ad (ad (ad ((aU 64 (dD (msg p 16) k)).getD k 0) (sm0 ((aU 64 (dD (msg p 16) k)).getD (k + 1) 0))) ((aU 64 (dD (msg p 16) k)).getD (k + 9) 0)) (sm1 ((aU 64 (dD (msg p 16) k)).getD (k + 14) 0))) := by
      have hn : (dD (msg p 16) k).length = k + 16 := by rw [cI, bX]; omega
      rw [dX _ _ _ (by omega), dX _ _ _ (by omega), dX _ _ _ (by omega), dX _ _ _ (by omega)]; rfl
     clear hl
     generalize (aU 64 (dD (msg p 16) k)).getD k 0 = y0 at *
     generalize (aU 64 (dD (msg p 16) k)).getD (k + 1) 0 = y1 at *
     generalize (aU 64 (dD (msg p 16) k)).getD (k + 9) 0 = y9 at *
     generalize (aU 64 (dD (msg p 16) k)).getD (k + 14) 0 = y14 at *
     generalize (aU 64 (dD (msg p 16) k)).getD (k + 16) 0 = y16 at *
     go_wp2_with fail
     go_quiet (fail)
     go_wp2_with fail
     with_reducible refine (NZ _ _).mono ?_
     rintro e w' ⟨rfl, rfl⟩
     go_wp2_with fail
     with_reducible refine (KP _ _).mono ?_
     rintro e w' ⟨rfl, rfl⟩
     go_wp2_with fail
     with_reducible refine (KQ _ _).mono ?_
     rintro e w' ⟨rfl, rfl⟩
     go_wp2_with fail
     with_reducible refine (KO _ _).mono ?_
     rintro e w' ⟨rfl, rfl⟩
     go_wp2_with fail
     go_region
     go_wp2
     go_roundw
     case rel =>
      refine ⟨k + 1, by omega, by go_num, ?_⟩
      have hn : (dD (msg p 16) k).length = k + 16 := by rw [cI, bX]; omega
      have hs := (hS.drewN (nq + 1)).step (by omega) (vD (dD (msg p 16) k) k)
      rw [hn, E.out] at hs
      have hu : dD (msg p 16) (k + 1) = dD (msg p 16) k ++ [vD (dD (msg p 16) k) k] := rfl
      rw [hu, E.out]
      simpa [ad, sm0, sm1, xr] using hs
     case measure => simp [intOf]; omega
    ·obtain rfl : k = 48 := by omega
     have H1 := zh hS.row; have H2 := zh hS.res
     have hi1 : (Tryz.prog.info? 167).map (·.size) = some ((aU 64 (dD (msg p 16) 48)).map (Value.int .u32)).toArray.size := by
      rw [List.size_toArray, List.length_map, cU _ _ (by rw [cI, bX]; omega)]; exact Tryz.info64u
     have HI := zh hi1; clear hi1
     go_wp2_with (first
      | (refine wpList_load_row rfl 167 _ rfl (w.heap.size + 1) rfl 167 _ (0, 0) _ H1.out Tryz.underlying167 rfl HI.out ?_)
      | (refine wpList_store_row rfl 167 _ _ rfl w.heap.size _ rfl rfl 167 _ H2.out HI.out ?hold (bE _ _) ?_))
     case hold => rw [List.size_toArray, List.size_toArray, List.length_map, List.length_map, cU _ _ (by rw [cI, bX]; omega)]; rfl
     refine bodyPost_ret (results_cell_row (P := Tryz.prog) rfl _ _ w.heap.size 167 _ (0, 0) _ rfl (H2.out.setRow _) Tryz.underlying167 rfl HI.out) rfl ⟨?_, ?_⟩
     ·rw [gI _ _ (by rw [cI, bX])]; rfl
     ·exact below_setRow hS.bel (Nat.le_refl _) _
theorem gF {P : Program} {f : FuncId} {args : Array Value} {w : World} {n : Nat} {v : Value}
 (h : Calls P f args (w.drewN n) fun e w' => e = .returned v ∧ w.drewN n = w') : Calls P f args (w.drewN n) fun e w'' => e = .returned v ∧ ∃ m, w'' = w.drewN m :=
 h.mono fun _ _ ⟨he, hm⟩ => ⟨he, n, hm.symm⟩
def cL (st : St) (rest : List Int) (used : Nat) (len : Int) : List Value :=
 st.list.map (Value.int .u32) ++ (rest.map (Value.int .u8) ++ [.int .i64 used, .int .u64 len])
structure HashIn (w : World) (b : Nat) (st : St) (rest : List Int) (used : Nat) (len : Int) : Prop where
 blk : w.heap[b]? = some (.cells (cL st rest used len).toArray 174 (0, 0))
 rl : rest.length = 64
theorem HashIn.free {w : World} {b : Nat} {st : St} {rest : List Int} {used : Nat} {len : Int} (h : HashIn w b st rest used len) (i : Nat) : w.frozen? ⟨b, i, none⟩ = false := frozen_of_row _ _ _ _ _ h.blk
theorem HashIn.word {w : World} {b : Nat} {st : St} {rest : List Int} {used : Nat} {len : Int} (h : HashIn w b st rest used len) (i : Nat) (hi : i < 8) : w.cell? ⟨b, i, none⟩ = some (.int .u32 (st.list.getD i 0)) :=
 gH h.blk (by unfold cL; rw [List.getElem?_append_left (by simpa [St.list] using hi)]; exact fZ _ _ _ _ (by simpa [St.list] using hi))
theorem HashIn.byte {w : World} {b : Nat} {st : St} {rest : List Int} {used : Nat} {len : Int} (h : HashIn w b st rest used len) (i : Nat) (hi : i < 64) : w.cell? ⟨b, 8 + i, none⟩ = some (.int .u8 (rest.getD i 0)) :=
 gH h.blk (by
  have := h.rl
  unfold cL; rw [List.getElem?_append_right (by simp [St.list]), List.getElem?_append_left (by simp [St.list]; omega)]
  have e : 8 + i - (st.list.map (Value.int .u32)).length = i := by simp [St.list]
  rw [e]; exact fZ _ _ _ _ (by omega))
theorem HashIn.usedAt {w : World} {b : Nat} {st : St} {rest : List Int} {used : Nat} {len : Int} (h : HashIn w b st rest used len) : w.cell? ⟨b, 72, none⟩ = some (.int .i64 used) :=
 gH h.blk (by
  have := h.rl
  unfold cL; rw [List.getElem?_append_right (by simp [St.list]), List.getElem?_append_right (by simp [St.list]; omega)]
  have e : 72 - (st.list.map (Value.int .u32)).length - (rest.map (Value.int .u8)).length = 0 := by simp [St.list]; omega
  rw [e]; rfl)
theorem HashIn.lenAt {w : World} {b : Nat} {st : St} {rest : List Int} {used : Nat} {len : Int} (h : HashIn w b st rest used len) : w.cell? ⟨b, 73, none⟩ = some (.int .u64 len) :=
 gH h.blk (by
  have := h.rl
  unfold cL; rw [List.getElem?_append_right (by simp [St.list]), List.getElem?_append_right (by simp [St.list]; omega)]
  have e : 73 - (st.list.map (Value.int .u32)).length - (rest.map (Value.int .u8)).length = 1 := by simp [St.list]; omega
  rw [e]; rfl)
theorem HashIn.below {w w' : World} {b B : Nat} {st : St} {rest : List Int} {used : Nat} {len : Int} (h : HashIn w b st rest used len) (hb : Below B w w') (hlt : b < B) : HashIn w' b st rest used len := ⟨(hb.block b hlt).trans h.blk, h.rl⟩
theorem HashIn.lt {w : World} {b : Nat} {st : St} {rest : List Int} {used : Nat} {len : Int} (h : HashIn w b st rest used len) : b < w.heap.size := (Array.getElem?_eq_some_iff.1 h.blk).1
theorem HashIn.alloc {w : World} {b : Nat} {st : St} {rest : List Int} {used : Nat} {len : Int} (h : HashIn w b st rest used len) (o : Obj) : HashIn (w.alloc o) b st rest used len := ⟨(heap_alloc_old w o h.lt).trans h.blk, h.rl⟩
theorem HashIn.drew {w : World} {b : Nat} {st : St} {rest : List Int} {used : Nat} {len : Int} (h : HashIn w b st rest used len) : HashIn w.drew b st rest used len := ⟨h.blk, h.rl⟩
theorem HashIn.drewN {w : World} {b : Nat} {st : St} {rest : List Int} {used : Nat} {len : Int} (h : HashIn w b st rest used len) (n : Nat) : HashIn (w.drewN n) b st rest used len := ⟨h.blk, h.rl⟩
theorem HashIn.row_other {w : World} {b : Nat} {st : St} {rest : List Int} {used : Nat} {len : Int} (h : HashIn w b st rest used len) (g : Nat) (cs : Array Value) (ha : b ≠ g) : HashIn (w.setRow g cs) b st rest used len := ⟨(setRow_other w g b cs ha).trans h.blk, h.rl⟩
theorem HashIn.stored {w : World} {b : Nat} {st : St} {rest : List Int} {used : Nat} {len : Int} (h : HashIn w b st rest used len) (i : Nat) (v : Value) {st' : St} {rest' : List Int} {used' : Nat} {len' : Int}
 (hr : rest'.length = 64) (he : (cL st rest used len).set i v = cL st' rest' used' len') : HashIn (w.setCell ⟨b, i, none⟩ v) b st' rest' used' len' :=
 ⟨by rw [heap_setCell_same _ _ _ _ _ _ h.blk, ← he]; simp, hr⟩
theorem jC (st : St) (rest : List Int) (used used' : Nat) (len : Int) (h : rest.length = 64) : (cL st rest used len).set 72 (.int .i64 used') = cL st rest used' len := by
 unfold cL
 rw [List.set_append_right _ _ (by simp [St.list]), List.set_append_right _ _ (by simp [St.list]; omega)]
 have e : 72 - (st.list.map (Value.int .u32)).length - (rest.map (Value.int .u8)).length = 0 := by simp [St.list]; omega
 rw [e]; rfl
theorem mN (st : St) (rest : List Int) (used : Nat) (len len' : Int) (h : rest.length = 64) : (cL st rest used len).set 73 (.int .u64 len') = cL st rest used len' := by
 unfold cL
 rw [List.set_append_right _ _ (by simp [St.list]), List.set_append_right _ _ (by simp [St.list]; omega)]
 have e : 73 - (st.list.map (Value.int .u32)).length - (rest.map (Value.int .u8)).length = 1 := by simp [St.list]; omega
 rw [e]; rfl
theorem jD (st : St) (rest : List Int) (used : Nat) (len : Int) (i : Nat) (v : Int) (h : rest.length = 64) (hi : i < 64) : (cL st rest used len).set (8 + i) (.int .u8 v) = cL st (rest.set i v) used len := by
 unfold cL
 rw [List.set_append_right _ _ (by simp [St.list]), List.set_append_left _ _ (by simp [St.list]; omega)]
 have e : 8 + i - (st.list.map (Value.int .u32)).length = i := by simp [St.list]
 rw [e, List.map_set]
def KayIn (w : World) : Prop := ∀ i, i < 64 → w.cell? ⟨1, i, none⟩ = some (.int .u32 (kay.getD i 0))
theorem KayIn.below {w w' : World} {B : Nat} (h : KayIn w) (hb : Below B w w') (hlt : 1 < B) : KayIn w' := fun i hi => (hb.cell (p := ⟨1, i, none⟩) hlt).trans (h i hi)
theorem pS {w w' : World} {row : Option Nat} (h : Below w.heap.size w w') : w.grownBy w' row := ⟨h.os, h.tape, h.output, h.size, fun k hk _ => h.block k hk⟩
theorem bB {w w' : World} {hb : Nat} (h : w.grownBy w' (some hb)) (hlt : hb ≤ w.heap.size) : Below hb w w' := ⟨h.os, h.tape, h.output, h.size, fun k hk => h.block k (by omega) (fun e => by injection e; omega)⟩
theorem cE {w w' : World} {b : Nat} (h : w.grownBy w' (some b)) (i : Nat) (v : Value) : w.grownBy (w'.setCell ⟨b, i, none⟩ v) (some b) :=
 ⟨h.os, h.tape, h.output, by simp [World.setCell]; exact h.size, fun k hk hne => (Below.heap_setCell _ _ _ _ (fun e => hne (by rw [e]))).trans (h.block k hk hne)⟩
theorem cG {w w' : World} {row : Option Nat} (h : w.grownBy w' row) : w.grownBy w'.drew row := ⟨h.os, h.tape, h.output, h.size, h.block⟩
theorem wL {w w' : World} {row : Option Nat} (h : w.grownBy w' row) (n : Nat) : w.grownBy (w'.drewN n) row := ⟨h.os, h.tape, h.output, h.size, h.block⟩
theorem fK (hb bb off cap : Nat) (p : List Int) (st : St) (rest : List Int) (used : Nat) (len : Int) (w : World) (hcap : 64 ≤ cap)
 (hc : ∀ j, j < 64 → w.cell? ⟨bb, off + j, none⟩ = some (.int .u8 (p.getD j 0))) (hbb : bb < w.heap.size)
 (hp : ∀ j, 0 ≤ p.getD j 0 ∧ p.getD j 0 < 256) (hk : KayIn w) (_hk0 : 1 < hb) (hh : HashIn w hb st rest used len) :
 Calls Tryz.prog 165 #[.pointer (some ⟨hb, 0, none⟩), .slice (some ⟨bb, off, none⟩) 64 cap] w fun e w' => e = .returned (.tuple #[]) ∧ HashIn w' hb (oC st p) rest used len ∧ w.grownBy w' (some hb) := by
 have HC := zh hc; clear hc
 have HP := zh hp; clear hp
 have HK := zh hk; clear hk
 have hlt := hh.lt
 go_enter Tryz.func165, Tryz.ntmps165
 go_wp2_with fail
 refine (tB bb off cap p w hcap HC.out hbb HP.out).mono ?_
 rintro e w1 ⟨rfl, hb1⟩
 have hh1 := hh.below hb1 hlt
 have hk1 := HK.out.below hb1 (by omega)
 have hi1 : (Tryz.prog.info? 167).map (·.size) = some ((iJ p).map (Value.int .u32)).toArray.size := by
  rw [List.size_toArray, List.length_map, hU]; exact Tryz.info64u
 have HI := zh hi1; clear hi1
 have hw0 : (w1.alloc (.cells (Array.replicate 64 (Value.int .u32 0)) 167)).heap[w1.heap.size]? = some (.cells (Array.replicate 64 (Value.int .u32 0)) 167 (0, 0)) := heap_alloc_new _ _
 have HW0 := zh hw0; clear hw0
 go_wp2_with (first
  | (refine wpList_store_row rfl 167 _ _ rfl w1.heap.size _ rfl rfl 167 _ HW0.out HI.out ?hold (bE _ _) ?_))
 case hold => simp [hU]
 generalize hw2 : World.setRow _ _ _ = w2
 have hsz := hb1.size
 have hh2 : HashIn w2 hb st rest used len := by rw [← hw2]; exact (hh1.alloc _).row_other _ _ (by omega)
 have hbe2 : Below w.heap.size w w2 := by rw [← hw2]; exact below_setRow (hb1.alloc (by omega) _) (by omega) _
 have hr2 : RowIn w2 w1.heap.size 167 .u32 (iJ p) := by rw [← hw2]; exact setRow_heap _ _ _ _ _ _ HW0.out
 have hk2 : KayIn w2 := HK.out.below hbe2 (by omega)
 clear hw2 HW0 hh1 hk1 hb1
 generalize w1.heap.size = g at *
 have d0 : w2.cell? ⟨hb, 0, none⟩ = some (.int .u32 st.a) := hh2.word 0 (by omega)
 have d1 : w2.cell? ⟨hb, 1, none⟩ = some (.int .u32 st.b) := hh2.word 1 (by omega)
 have d2 : w2.cell? ⟨hb, 2, none⟩ = some (.int .u32 st.c) := hh2.word 2 (by omega)
 have d3 : w2.cell? ⟨hb, 3, none⟩ = some (.int .u32 st.d) := hh2.word 3 (by omega)
 have d4 : w2.cell? ⟨hb, 4, none⟩ = some (.int .u32 st.e) := hh2.word 4 (by omega)
 have d5 : w2.cell? ⟨hb, 5, none⟩ = some (.int .u32 st.f) := hh2.word 5 (by omega)
 have d6 : w2.cell? ⟨hb, 6, none⟩ = some (.int .u32 st.g) := hh2.word 6 (by omega)
 have d7 : w2.cell? ⟨hb, 7, none⟩ = some (.int .u32 st.h) := hh2.word 7 (by omega)
 go_quiet (fail)
 clear d0 d1 d2 d3 d4 d5 d6 d7
 generalize hw3 : w2.drewN nq = w3
 have hh3 : HashIn w3 hb st rest used len := by rw [← hw3]; exact hh2.drewN _
 have hbe3 : Below w.heap.size w w3 := by rw [← hw3]; exact below_drewN hbe2 _
 have hr3 : RowIn w3 g 167 .u32 (iJ p) := by rw [← hw3]; exact hr2
 have hk3 : KayIn w3 := by rw [← hw3]; exact hk2
 clear hw3 hh2 hbe2 hr2 hk2
 have HK3 := zh hk3; clear hk3
 go_wp2_with fail
 go_loopw [6, 7, 8, 9, 10, 11, 12, 13, 54] (fun a b c d e f g h i wr => ∃ (k n : Nat) (s : St), k ≤ 64 ∧ i = .int .i64 k ∧ wr = w3.drewN n ∧ Hid (FL (iJ p) st k = s) ∧ a = .int .u32 s.a ∧ b = .int .u32 s.b ∧ c = .int .u32 s.c ∧ d = .int .u32 s.d ∧ e = .int .u32 s.e ∧ f = .int .u32 s.f ∧ g = .int .u32 s.g ∧ h = .int .u32 s.h)
  (fun _ _ _ _ _ _ _ _ i _ => 64 - (intOf i).toNat)
 case atStart => exact ⟨0, 0, st, by omega, rfl, rfl, rfl, rfl, rfl, rfl, rfl, rfl, rfl, rfl, rfl⟩
 case round =>
  obtain ⟨k, n, ⟨sa, sb, sc, sd, se, sf, sg, sh⟩, hk, rfl, hwr, hs, rfl, rfl, rfl, rfl, rfl, rfl, rfl, rfl⟩ := hrel
  have HWR := zh hwr; clear hwr
  by_cases hlt2 : k < 64
  ·have ck : wr.cell? ⟨1, k, none⟩ = some (.int .u32 (kay.getD k 0)) := by rw [HWR.out]; exact HK3.out k hlt2
   have cw : wr.cell? ⟨g, k, none⟩ = some (.int .u32 ((iJ p).getD k 0)) := by rw [HWR.out]; exact hr3.get k (by rw [hU]; exact hlt2)
   have E : Hid (FL (iJ p) st (k + 1) = rnd (kay.getD k 0) ((iJ p).getD k 0) ⟨sa, sb, sc, sd, se, sf, sg, sh⟩) := by show rnd _ _ _ = _; rw [hs.out]
   generalize kay.getD k 0 = kk at *
   generalize (iJ p).getD k 0 = ww at *
   clear hs
   go_wp2_with fail
   go_quiet ((first | (go_at_call 179; exact gF (FU _ _)) | (go_at_call 180; exact gF (AD _ _ _ _))))
   go_wp2_with fail
   with_reducible refine (FV _ _).mono ?_
   rintro e w' ⟨rfl, rfl⟩
   go_wp2_with fail
   with_reducible refine (tW _ _ _ _).mono ?_
   rintro e w' ⟨rfl, rfl⟩
   go_wp2
   go_roundw
   case rel =>
    refine ⟨k + 1, n + nq, _, by omega, by go_num, by rw [HWR.out, World.drewN_drewN], E, ?_⟩
    simp [rnd, tOne, tTwo, ad, Int.add_assoc]
   case measure => simp [intOf]; omega
  ·obtain rfl : k = 64 := by omega
   have hh4 : HashIn wr hb st rest used len := by rw [HWR.out]; exact hh3.drewN _
   have hbe4 : w.grownBy wr (some hb) := by rw [HWR.out]; exact wL (pS hbe3) _
   clear HWR hr3 hh3 hbe3 HK3
   go_wp2_with fail
   have d : wr.cell? ⟨hb, 0, none⟩ = some (.int .u32 st.a) := hh4.word 0 (by omega)
   have fr := hh4.free 0
   go_region
   go_wp2_with fail
   generalize hw : World.drew _ = x0
   have hh5 : HashIn x0 hb ⟨ad st.a sa, st.b, st.c, st.d, st.e, st.f, st.g, st.h⟩ rest used len := by rw [← hw]; exact (hh4.stored 0 (.int .u32 (ad st.a sa)) (st' := ⟨ad st.a sa, st.b, st.c, st.d, st.e, st.f, st.g, st.h⟩) (rest' := rest) (used' := used) (len' := len) hh4.rl rfl).drew
   have hbe5 : w.grownBy x0 (some hb) := by rw [← hw]; exact cG (cE hbe4 0 _)
   clear hw d fr hh4 hbe4
   have d : x0.cell? ⟨hb, 1, none⟩ = some (.int .u32 st.b) := hh5.word 1 (by omega)
   have fr := hh5.free 1
   go_region
   go_wp2_with fail
   generalize hw : World.drew _ = x1
   have hh6 : HashIn x1 hb ⟨ad st.a sa, ad st.b sb, st.c, st.d, st.e, st.f, st.g, st.h⟩ rest used len := by rw [← hw]; exact (hh5.stored 1 (.int .u32 (ad st.b sb)) (st' := ⟨ad st.a sa, ad st.b sb, st.c, st.d, st.e, st.f, st.g, st.h⟩) (rest' := rest) (used' := used) (len' := len) hh5.rl rfl).drew
   have hbe6 : w.grownBy x1 (some hb) := by rw [← hw]; exact cG (cE hbe5 1 _)
   clear hw d fr hh5 hbe5
   have d : x1.cell? ⟨hb, 2, none⟩ = some (.int .u32 st.c) := hh6.word 2 (by omega)
   have fr := hh6.free 2
   go_region
   go_wp2_with fail
   generalize hw : World.drew _ = x2
   have hh7 : HashIn x2 hb ⟨ad st.a sa, ad st.b sb, ad st.c sc, st.d, st.e, st.f, st.g, st.h⟩ rest used len := by rw [← hw]; exact (hh6.stored 2 (.int .u32 (ad st.c sc)) (st' := ⟨ad st.a sa, ad st.b sb, ad st.c sc, st.d, st.e, st.f, st.g, st.h⟩) (rest' := rest) (used' := used) (len' := len) hh6.rl rfl).drew
   have hbe7 : w.grownBy x2 (some hb) := by rw [← hw]; exact cG (cE hbe6 2 _)
   clear hw d fr hh6 hbe6
   have d : x2.cell? ⟨hb, 3, none⟩ = some (.int .u32 st.d) := hh7.word 3 (by omega)
   have fr := hh7.free 3
   go_region
   go_wp2_with fail
   generalize hw : World.drew _ = x3
   have hh8 : HashIn x3 hb ⟨ad st.a sa, ad st.b sb, ad st.c sc, ad st.d sd, st.e, st.f, st.g, st.h⟩ rest used len := by rw [← hw]; exact (hh7.stored 3 (.int .u32 (ad st.d sd)) (st' := ⟨ad st.a sa, ad st.b sb, ad st.c sc, ad st.d sd, st.e, st.f, st.g, st.h⟩) (rest' := rest) (used' := used) (len' := len) hh7.rl rfl).drew
   have hbe8 : w.grownBy x3 (some hb) := by rw [← hw]; exact cG (cE hbe7 3 _)
   clear hw d fr hh7 hbe7
   have d : x3.cell? ⟨hb, 4, none⟩ = some (.int .u32 st.e) := hh8.word 4 (by omega)
   have fr := hh8.free 4
   go_region
   go_wp2_with fail
   generalize hw : World.drew _ = x4
   have hh9 : HashIn x4 hb ⟨ad st.a sa, ad st.b sb, ad st.c sc, ad st.d sd, ad st.e se, st.f, st.g, st.h⟩ rest used len := by rw [← hw]; exact (hh8.stored 4 (.int .u32 (ad st.e se)) (st' := ⟨ad st.a sa, ad st.b sb, ad st.c sc, ad st.d sd, ad st.e se, st.f, st.g, st.h⟩) (rest' := rest) (used' := used) (len' := len) hh8.rl rfl).drew
   have hbe9 : w.grownBy x4 (some hb) := by rw [← hw]; exact cG (cE hbe8 4 _)
   clear hw d fr hh8 hbe8
   have d : x4.cell? ⟨hb, 5, none⟩ = some (.int .u32 st.f) := hh9.word 5 (by omega)
   have fr := hh9.free 5
   go_region
   go_wp2_with fail
   generalize hw : World.drew _ = x5
   have hh10 : HashIn x5 hb ⟨ad st.a sa, ad st.b sb, ad st.c sc, ad st.d sd, ad st.e se, ad st.f sf, st.g, st.h⟩ rest used len := by rw [← hw]; exact (hh9.stored 5 (.int .u32 (ad st.f sf)) (st' := ⟨ad st.a sa, ad st.b sb, ad st.c sc, ad st.d sd, ad st.e se, ad st.f sf, st.g, st.h⟩) (rest' := rest) (used' := used) (len' := len) hh9.rl rfl).drew
   have hbe10 : w.grownBy x5 (some hb) := by rw [← hw]; exact cG (cE hbe9 5 _)
   clear hw d fr hh9 hbe9
   have d : x5.cell? ⟨hb, 6, none⟩ = some (.int .u32 st.g) := hh10.word 6 (by omega)
   have fr := hh10.free 6
   go_region
   go_wp2_with fail
   generalize hw : World.drew _ = x6
   have hh11 : HashIn x6 hb ⟨ad st.a sa, ad st.b sb, ad st.c sc, ad st.d sd, ad st.e se, ad st.f sf, ad st.g sg, st.h⟩ rest used len := by rw [← hw]; exact (hh10.stored 6 (.int .u32 (ad st.g sg)) (st' := ⟨ad st.a sa, ad st.b sb, ad st.c sc, ad st.d sd, ad st.e se, ad st.f sf, ad st.g sg, st.h⟩) (rest' := rest) (used' := used) (len' := len) hh10.rl rfl).drew
   have hbe11 : w.grownBy x6 (some hb) := by rw [← hw]; exact cG (cE hbe10 6 _)
   clear hw d fr hh10 hbe10
   have d : x6.cell? ⟨hb, 7, none⟩ = some (.int .u32 st.h) := hh11.word 7 (by omega)
   have fr := hh11.free 7
   go_region
   go_wp2_with fail
   generalize hw : World.drew _ = x7
   have hh12 : HashIn x7 hb ⟨ad st.a sa, ad st.b sb, ad st.c sc, ad st.d sd, ad st.e se, ad st.f sf, ad st.g sg, ad st.h sh⟩ rest used len := by rw [← hw]; exact (hh11.stored 7 (.int .u32 (ad st.h sh)) (st' := ⟨ad st.a sa, ad st.b sb, ad st.c sc, ad st.d sd, ad st.e se, ad st.f sf, ad st.g sg, ad st.h sh⟩) (rest' := rest) (used' := used) (len' := len) hh11.rl rfl).drew
   have hbe12 : w.grownBy x7 (some hb) := by rw [← hw]; exact cG (cE hbe11 7 _)
   clear hw d fr hh11 hbe11
   go_end0
   exact ⟨rfl, by unfold oC; rw [hs.out]; exact hh12, hbe12⟩
theorem jV (hb bb off cap : Nat) (p : List Int) (st : St) (rest : List Int) (used : Nat) (len : Int) (w : World) (hcap : 64 ≤ cap)
 (hc : ∀ j, j < 64 → w.cell? ⟨bb, off + j, none⟩ = some (.int .u8 (p.getD j 0))) (hbb : bb < w.heap.size)
 (hp : ∀ j, 0 ≤ p.getD j 0 ∧ p.getD j 0 < 256) (hk : KayIn w) (hk0 : 1 < hb) (hh : HashIn w hb st rest used len) :
 Calls Tryz.prog 165 #[.pointer (some ⟨hb, 0, none⟩), .slice (some ⟨bb, off, none⟩) 64 cap] w fun e w' => e = .returned (.tuple #[]) ∧ HashIn w' hb (oC st p) rest used len ∧ Below hb w w' :=
 (fK hb bb off cap p st rest used len w hcap hc hbb hp hk hk0 hh).mono fun _ _ ⟨a, b, c⟩ => ⟨a, b, bB c (Nat.le_of_lt hh.lt)⟩
theorem Tryz.info60h : (Tryz.prog.info? 174).map (·.size) = some 74 := by kernel_rfl
theorem Tryz.info25d : (Tryz.prog.info? 43).map (·.size) = some 32 := by kernel_rfl
def zst : St := ⟨0, 0, 0, 0, 0, 0, 0, 0⟩
def AR : Array Value := (cL zst (List.replicate 64 0) 0 0).toArray
def uF : Array Value := (cL iv (List.replicate 64 0) 0 0).toArray
theorem IL (w : World) : (zeroValue 174).run Tryz.prog w = .ok (.agg AR) w := by kernel_rfl
theorem DW (w : World) : (Instr.build 138 #[(0, .int .u32 1779033703), (1, .int .u32 3144134277), (2, .int .u32 1013904242), (3, .int .u32 2773480762), (4, .int .u32 1359893119), (5, .int .u32 2600822924), (6, .int .u32 528734635), (7, .int .u32 1541459225)]).run Tryz.prog w = .ok (.agg #[.int .u32 1779033703, .int .u32 3144134277, .int .u32 1013904242, .int .u32 2773480762, .int .u32 1359893119, .int .u32 2600822924, .int .u32 528734635, .int .u32 1541459225]) w := by kernel_rfl
theorem MB (w : World) : (Instr.build 174 #[(0, .agg #[.int .u32 1779033703, .int .u32 3144134277, .int .u32 1013904242, .int .u32 2773480762, .int .u32 1359893119, .int .u32 2600822924, .int .u32 528734635, .int .u32 1541459225])]).run Tryz.prog w = .ok (.agg uF) w := by kernel_rfl
theorem uE : uF.all (·.oneCell') = true := by decide +kernel
theorem vX (w : World) :
 Calls Tryz.prog 145 #[] w fun e w' => e = .returned (.agg uF) ∧ Below w.heap.size w w' := by
 have hz := IL
 have h49 := DW
 have h60 := MB
 have H0 := zh (heap_alloc_new w (.cells AR 174))
 have HI : Hid ((Tryz.prog.info? 174).map (·.size) = some uF.size) := Tryz.info60h
 go_enter Tryz.func145, Tryz.ntmps145
 go_wp2_with (refine wpList_store_row rfl 174 _ _ rfl w.heap.size uF rfl rfl 174 AR H0.out HI.out rfl uE ?_)
 refine bodyPost_ret (results_cell_row (P := Tryz.prog) rfl _ _ w.heap.size 174 uF (0, 0) _ rfl (setRow_heap _ _ _ _ _ _ H0.out) Tryz.underlying174 rfl HI.out) rfl ⟨rfl, below_setRow ((Below.refl _ _).alloc (Nat.le_refl _) _) (Nat.le_refl _) _⟩
def wb (x : Int) : List Int := [(x / 16777216) % 256, (x / 65536) % 256, (x / 256) % 256, x % 256]
def aT : List Int → List Int
 | [] => []
 | x :: r => wb x ++ aT r
theorem aR (l : List Int) : (aT l).length = 4 * l.length := by
 induction l with
 | nil => rfl
 | cons x r ih => simp [aT, wb, ih]; omega
theorem sC (a b : List Int) : aT (a ++ b) = aT a ++ aT b := by
 induction a with
 | nil => rfl
 | cons x r ih => simp [aT, ih]
theorem qA (l : List Int) (k : Nat) (h : k < l.length) : l.take (k + 1) = l.take k ++ [l.getD k 0] := by
 rw [List.take_succ_eq_append_getElem h]; simp [List.getD_eq_getElem?_getD, List.getElem?_eq_getElem h]
theorem DI (l : List Int) (a b c d : Int) (n m : Nat) (hn : l.length = n) (hm : n + 4 ≤ m) :
 ((((aU m l).set n a).set (n + 1) b).set (n + 2) c).set (n + 3) d = aU m (l ++ [a, b, c, d]) := by
 subst hn
 rw [eP _ _ _ (by omega)]
 have h1 := eP m (l ++ [a]) b (by simp; omega)
 have h2 := eP m (l ++ [a] ++ [b]) c (by simp; omega)
 have h3 := eP m (l ++ [a] ++ [b] ++ [c]) d (by simp; omega)
 simp only [List.length_append, List.append_assoc, List.singleton_append, List.length_cons, List.length_nil] at h1 h2 h3
 rw [h1, h2, h3]
 rfl
theorem OH (st : St) (k : Nat) (hk : k < 8) (w : World) : (Instr.index 138 (.agg #[.int .u32 st.a, .int .u32 st.b, .int .u32 st.c, .int .u32 st.d, .int .u32 st.e, .int .u32 st.f, .int .u32 st.g, .int .u32 st.h]) (.int .i64 k)).run Tryz.prog w = .ok (.int .u32 (st.list.getD k 0)) w := by
 rcases (by omega : k = 0 ∨ k = 1 ∨ k = 2 ∨ k = 3 ∨ k = 4 ∨ k = 5 ∨ k = 6 ∨ k = 7) with rfl | rfl | rfl | rfl | rfl | rfl | rfl | rfl <;> kernel_rfl
structure DigAt (B : Nat) (w wr : World) (L : List Int) : Prop where
 row : RowIn wr (B + 1) 43 .u8 L
 res : RowIn wr B 43 .u8 (List.replicate 32 0)
 bel : Below B w wr
 size : wr.heap.size = B + 2
theorem DigAt.start (w : World) : DigAt w.heap.size w ((w.alloc (.cells (Array.replicate 32 (Value.int .u8 0)) 43)).alloc (.cells (Array.replicate 32 (Value.int .u8 0)) 43)) (aU 32 []) :=
 ⟨heap_alloc2_new _ _ _, heap_alloc2_old _ _ _, ((Below.refl _ _).alloc (Nat.le_refl _) _).alloc (by simp) _, by simp⟩
theorem DigAt.put {B : Nat} {w wr : World} {L : List Int} (h : DigAt B w wr L) (i : Nat) (v : Int) : DigAt B w (wr.setCell ⟨B + 1, i, none⟩ (.int .u8 v)) (L.set i v) :=
 ⟨h.row.put i v, h.res.put_other _ _ (by simp), h.bel.setCell (by simp) _, by simp [World.setCell, h.size]⟩
theorem DigAt.four {B : Nat} {w wr : World} {l : List Int} (h : DigAt B w wr (aU 32 l)) (n : Nat) (hn : l.length = n) (hm : n + 4 ≤ 32) (x : Int) :
 DigAt B w ((((wr.setCell ⟨B + 1, n, none⟩ (.int .u8 (x / 16777216 % 256))).setCell ⟨B + 1, n + 1, none⟩ (.int .u8 (x / 65536 % 256))).setCell ⟨B + 1, n + 2, none⟩ (.int .u8 (x / 256 % 256))).setCell ⟨B + 1, n + 3, none⟩ (.int .u8 (x % 256))) (aU 32 (l ++ wb x)) := by
 have := (((h.put n (x / 16777216 % 256)).put (n + 1) (x / 65536 % 256)).put (n + 2) (x / 256 % 256)).put (n + 3) (x % 256)
 rw [DI _ _ _ _ _ _ _ hn hm] at this
 exact this
theorem qX (hb : Nat) (st : St) (rest : List Int) (used : Nat) (len : Int) (w : World) (hh : HashIn w hb st rest used len) :
 Calls Tryz.prog 166 #[.pointer (some ⟨hb, 0, none⟩)] w fun e w' => e = .returned (.agg ((aT st.list).map (Value.int .u8)).toArray) ∧ Below w.heap.size w w' := by
 have d0 : w.cell? ⟨hb, 0, none⟩ = some (.int .u32 st.a) := hh.word 0 (by omega)
 have d1 : w.cell? ⟨hb, 1, none⟩ = some (.int .u32 st.b) := hh.word 1 (by omega)
 have d2 : w.cell? ⟨hb, 2, none⟩ = some (.int .u32 st.c) := hh.word 2 (by omega)
 have d3 : w.cell? ⟨hb, 3, none⟩ = some (.int .u32 st.d) := hh.word 3 (by omega)
 have d4 : w.cell? ⟨hb, 4, none⟩ = some (.int .u32 st.e) := hh.word 4 (by omega)
 have d5 : w.cell? ⟨hb, 5, none⟩ = some (.int .u32 st.f) := hh.word 5 (by omega)
 have d6 : w.cell? ⟨hb, 6, none⟩ = some (.int .u32 st.g) := hh.word 6 (by omega)
 have d7 : w.cell? ⟨hb, 7, none⟩ = some (.int .u32 st.h) := hh.word 7 (by omega)
 have hlt := hh.lt
 go_enter Tryz.func166, Tryz.ntmps166
 go_wp2_with fail
 go_loopw [10] (fun i wr => ∃ k : Nat, k ≤ 8 ∧ i = .int .i64 k ∧ DigAt w.heap.size w wr (aU 32 (aT (st.list.take k)))) (fun i _ => 8 - (intOf i).toNat)
 case atStart => exact ⟨0, by omega, rfl, DigAt.start w⟩
 case round =>
  obtain ⟨k, hk, rfl, hS⟩ := hrel
  clear d0 d1 d2 d3 d4 d5 d6 d7
  by_cases hlt : k < 8
  ·have hd : (aT (st.list.take k)).length = 4 * k := by rw [aR, List.length_take, St.list_length]; omega
   have hl : (aU 32 (aT (st.list.take k))).length = 32 := cU _ _ (by omega)
   have c0 := hS.row.get (4 * k) (by omega)
   have f0 := hS.row.free (4 * k)
   have c1 := hS.row.get (4 * k + 1) (by omega)
   have f1 := hS.row.free (4 * k + 1)
   have c2 := hS.row.get (4 * k + 2) (by omega)
   have f2 := hS.row.free (4 * k + 2)
   have c3 := hS.row.get (4 * k + 3) (by omega)
   have f3 := hS.row.free (4 * k + 3)
   have E : Hid (aT (st.list.take (k + 1)) = aT (st.list.take k) ++ wb (st.list.getD k 0)) := by
    show _ = _
    rw [qA _ _ (by rw [St.list_length]; exact hlt), sC]; rfl
   have hix := OH st k hlt
   have HD := zh hd; clear hd hl
   generalize st.list.getD k 0 = x at *
   go_wp2
   go_roundw
   case rel =>
    refine ⟨k + 1, by omega, by go_num, ?_⟩
    rw [E.out]
    exact hS.four (4 * k) HD.out (by omega) x
   case measure => simp [intOf]; omega
  ·obtain rfl : k = 8 := by omega
   have hl : (aU 32 (aT (st.list.take 8))) = aT st.list := gI _ _ rfl
   rw [hl] at hS
   have H1 := zh hS.row; have H2 := zh hS.res
   have hi1 : (Tryz.prog.info? 43).map (·.size) = some ((aT st.list).map (Value.int .u8)).toArray.size := by
    rw [List.size_toArray, List.length_map, aR, St.list_length]; exact Tryz.info25d
   have HI := zh hi1; clear hi1 hl
   have hone := bE .u8 (aT st.list)
   have hsz : ((List.replicate 32 0).map (Value.int .u8)).toArray.size = ((aT st.list).map (Value.int .u8)).toArray.size := by simp [aR, St.list_length]
   have HO := zh hone; have HZ := zh hsz; clear hone hsz
   generalize hL : aT st.list = L at *
   have HL := zh hL; clear hL
   go_wp2_with (first
    | (refine wpList_load_row rfl 43 _ rfl (w.heap.size + 1) rfl 43 _ (0, 0) _ H1.out Tryz.underlying43 rfl HI.out ?_)
    | (refine wpList_store_row rfl 43 _ _ rfl w.heap.size _ rfl rfl 43 _ H2.out HI.out HZ.out HO.out ?_))
   exact bodyPost_ret (results_cell_row (P := Tryz.prog) rfl _ _ w.heap.size 43 _ (0, 0) _ rfl (H2.out.setRow _) Tryz.underlying43 rfl HI.out) rfl ⟨by rw [HL.out], below_setRow hS.bel (Nat.le_refl _) _⟩
end Go.Proofs.YtcligodahogpkaaGreatDoor
namespace Go.Proofs.YtcligodahogpkaaGreatDoor
open Go
def Byt (l : List Int) : Prop := ∀ x ∈ l, 0 ≤ x ∧ x < 256
theorem Byt.at_ {l : List Int} (h : Byt l) (j : Nat) : 0 ≤ l.getD j 0 ∧ l.getD j 0 < 256 := by
 rw [List.getD_eq_getElem?_getD]
 by_cases hj : j < l.length
 ·rw [List.getElem?_eq_getElem hj]; exact h _ (List.getElem_mem hj)
 ·rw [List.getElem?_eq_none (by omega)]; simp
theorem Byt.take {l : List Int} (h : Byt l) (k : Nat) : Byt (l.take k) := fun x hx => h x (List.mem_of_mem_take hx)
theorem Byt.drop {l : List Int} (h : Byt l) (k : Nat) : Byt (l.drop k) := fun x hx => h x (List.mem_of_mem_drop hx)
theorem Byt.append {a b : List Int} (ha : Byt a) (hb : Byt b) : Byt (a ++ b) := fun x hx => by
 rcases List.mem_append.1 hx with h | h
 ·exact ha x h
 ·exact hb x h
theorem Byt.splice {a b : List Int} (ha : Byt a) (hb : Byt b) (k : Nat) : Byt (splice a k b) := (ha.take k).append (hb.append (ha.drop _))
theorem Byt.zeros (n : Nat) : Byt (List.replicate n 0) := fun x hx => by rw [List.eq_of_mem_replicate hx]; omega
theorem Byt.set {l : List Int} (h : Byt l) (i : Nat) (v : Int) (h0 : 0 ≤ v) (h1 : v < 256) : Byt (l.set i v) := fun x hx => by
 rcases List.mem_or_eq_of_mem_set hx with h' | h'
 ·exact h x h'
 ·subst h'; exact ⟨h0, h1⟩
theorem yE (l b : List Int) (k : Nat) : (l ++ b).drop (l.length + k) = b.drop k := by
 rw [List.drop_append, (show l.drop (l.length + k) = [] from List.drop_eq_nil_of_le (by omega)), Nat.add_sub_cancel_left, List.nil_append]
theorem fE (m : Nat) (s : St) (a b : List Int) (h : 64 * m ≤ a.length) : pN m s (a ++ b) = pN m s a := by
 induction m generalizing s a with
 | zero => rfl
 | succ m ih =>
   show pN m (oC s ((a ++ b).take 64)) ((a ++ b).drop 64) = pN m (oC s (a.take 64)) (a.drop 64)
   rw [List.take_append_of_le_length (by omega), List.drop_append_of_le_length (by omega), ih _ _ (by rw [List.length_drop]; omega)]
theorem iS (m : Nat) (s : St) (a : List Int) : pN (m + 1) s a = oC (pN m s a) ((a.drop (64 * m)).take 64) := by
 induction m generalizing s a with
 | zero => rfl
 | succ m ih =>
   show pN (m + 1) (oC s (a.take 64)) (a.drop 64) = oC (pN m (oC s (a.take 64)) (a.drop 64)) _
   rw [ih, List.drop_drop]
   congr 3
   omega
structure Has (l : List Int) (st : St) (rest : List Int) (used : Nat) (len : Int) : Prop where
 hst : st = pN (l.length / 64) iv l
 hused : used = l.length % 64
 hlen : len = l.length
 htail : rest.take used = l.drop (64 * (l.length / 64))
 hbyt : Byt rest
structure Mid (l b : List Int) (k : Nat) (st : St) : Prop where
 le : k ≤ b.length
 whole : (l.length + k) % 64 = 0
 hst : st = pN ((l.length + k) / 64) iv (l ++ b)
theorem Has.start (rest : List Int) (h : Byt rest) : Has [] iv rest 0 0 := ⟨rfl, rfl, rfl, rfl, h⟩
theorem Has.mid0 {l : List Int} {st : St} {rest : List Int} {len : Int} (h : Has l st rest 0 len) (b : List Int) : Mid l b 0 st :=
 ⟨Nat.zero_le _, by rw [Nat.add_zero]; exact h.hused.symm, by rw [Nat.add_zero, fE _ _ _ _ (by omega)]; exact h.hst⟩
theorem kV {l : List Int} (k : Nat) (c : List Int) (h : k ≤ l.length) : (splice l k c).take (k + c.length) = l.take k ++ c := by
 unfold splice
 have hk : (l.take k).length = k := by rw [List.length_take]; omega
 rw [List.take_append, hk, Nat.add_sub_cancel_left, List.take_of_length_le (by omega), List.take_append_of_le_length (Nat.le_refl _), List.take_length]
theorem Has.mid1 {l : List Int} {st : St} {rest : List Int} {used : Nat} {len : Int} (h : Has l st rest used len) (b : List Int) (hr : rest.length = 64) (_h0 : 0 < used) (h1 : 64 ≤ used + b.length) :
 Mid l b (64 - used) (oC st (splice rest used (b.take (64 - used)))) := by
 have hu := h.hused
 have hlt : used < 64 := by omega
 have hb : (b.take (64 - used)).length = 64 - used := by rw [List.length_take]; omega
 have hd : (l.drop (64 * (l.length / 64))).length = used := by rw [List.length_drop]; omega
 refine ⟨by omega, by omega, ?_⟩
 have e : (l.length + (64 - used)) / 64 = l.length / 64 + 1 := by omega
 rw [e, iS, fE _ _ _ _ (by omega), ← h.hst]
 congr 1
 have hs := kV (l := rest) used (b.take (64 - used)) (by omega)
 rw [hb, show used + (64 - used) = 64 by omega] at hs
 rw [List.take_of_length_le (by rw [length_splice _ _ _ (by rw [hb, hr]; omega), hr]; omega)] at hs
 rw [hs, h.htail, List.drop_append_of_le_length (by omega), List.take_append, hd, List.take_of_length_le (l := List.drop (64 * (l.length / 64)) l) (by omega)]
theorem Mid.step {l b : List Int} {k : Nat} {st : St} (h : Mid l b k st) (hk : k + 64 ≤ b.length) : Mid l b (k + 64) (oC st ((b.drop k).take 64)) := by
 have hw := h.whole
 refine ⟨hk, by omega, ?_⟩
 have e : (l.length + (k + 64)) / 64 = (l.length + k) / 64 + 1 := by omega
 rw [e, iS, ← h.hst]
 congr 2
 have e2 : 64 * ((l.length + k) / 64) = l.length + k := by omega
 rw [e2, yE]
theorem Mid.fin {l b : List Int} {k : Nat} {st : St} (h : Mid l b k st) (hk : b.length < k + 64) {rest : List Int} (_hr : rest.length = 64) (hby : Byt rest) (hbb : Byt b) :
 Has (l ++ b) st (splice rest 0 (b.drop k)) (b.length - k) ((l.length : Int) + b.length) := by
 have hw := h.whole
 have hle := h.le
 have hd : (b.drop k).length = b.length - k := List.length_drop
 have hlen : (l ++ b).length = l.length + b.length := List.length_append
 have e1 : (l.length + b.length) / 64 = (l.length + k) / 64 := by omega
 refine ⟨by rw [hlen, e1]; exact h.hst, by rw [hlen]; omega, by rw [hlen]; simp, ?_, hby.splice (hbb.drop k) 0⟩
 have hs := kV (l := rest) 0 (b.drop k) (by omega)
 rw [hd, Nat.zero_add, List.take_zero, List.nil_append] at hs
 rw [hs, hlen, e1]
 have e2 : 64 * ((l.length + k) / 64) = l.length + k := by omega
 rw [e2, yE]
theorem Has.small {l : List Int} {st : St} {rest : List Int} {used : Nat} {len : Int} (h : Has l st rest used len) (b : List Int) (hr : rest.length = 64) (h1 : used + b.length < 64) (hbb : Byt b) :
 Has (l ++ b) st (splice rest used b) (used + b.length) (len + b.length) := by
 have hu := h.hused
 have hlen : (l ++ b).length = l.length + b.length := List.length_append
 have e1 : (l.length + b.length) / 64 = l.length / 64 := by omega
 refine ⟨by rw [hlen, e1, fE _ _ _ _ (by omega)]; exact h.hst, by rw [hlen]; omega, by rw [hlen, h.hlen]; simp, ?_, h.hbyt.splice hbb used⟩
 rw [kV _ _ (by omega), h.htail, hlen, e1, List.drop_append_of_le_length (by omega)]
end Go.Proofs.YtcligodahogpkaaGreatDoor
namespace Go.Proofs.YtcligodahogpkaaGreatDoor
open Go.RowKit
structure Src (w : World) (B : Nat) (sp : Option Addr) (n cap : Nat) (b : List Int) : Prop where
 len : b.length = n
 byt : Byt b
 cells : 0 < n → ∃ bb off, sp = some ⟨bb, off, none⟩ ∧ bb < B ∧ n ≤ cap ∧ ∀ j, j < n → w.cell? ⟨bb, off + j, none⟩ = some (.int .u8 (b.getD j 0))
theorem Src.pos {w : World} {B : Nat} {sp : Option Addr} {n cap : Nat} {b : List Int} (h : Src w B sp n cap b) (hp : 0 < (b.map (Value.int .u8)).length) : ∃ ad, sp = some ad ∧ ∀ j v, (b.map (Value.int .u8))[j]? = some v → w.cell? (ad.add j) = some v := by
 have hl := h.len
 rw [List.length_map] at hp
 obtain ⟨bb, off, rfl, _, _, hc⟩ := h.cells (by omega)
 refine ⟨_, rfl, fun j v hv => ?_⟩
 have hj : j < b.length := by have := (List.getElem?_eq_some_iff.1 hv).1; simpa using this
 rw [fZ _ _ _ 0 hj] at hv
 injection hv with hv
 rw [Addr.add_mid, hc j (by omega), hv]
theorem gG (k : IntKind) (b : List Int) : ∀ v ∈ b.map (Value.int k), v.oneCell' = true := fun v hv => by
 simp at hv; obtain ⟨x, _, rfl⟩ := hv; rfl
theorem dN (st : St) (rest : List Int) (used : Nat) (len : Int) (h : rest.length = 64) : (cL st rest used len).length = 74 := by simp [cL, St.list, h]
theorem Src.below {w w' : World} {B B' : Nat} {sp : Option Addr} {n cap : Nat} {b : List Int} (h : Src w B sp n cap b) (hb : Below B' w w') (hB : B ≤ B') : Src w' B sp n cap b :=
 ⟨h.len, h.byt, fun hn => by
  obtain ⟨bb, off, e, hlt, hc, hcell⟩ := h.cells hn
  exact ⟨bb, off, e, hlt, hc, fun j hj => (hb.cell (p := ⟨bb, off + j, none⟩) (by show bb < B'; omega)).trans (hcell j hj)⟩⟩
def oE (hb : Nat) (w : World) (l : List Int) (e : Ending) (w' : World) : Prop :=
 e = .returned (.tuple #[]) ∧ (∃ st rest used len, HashIn w' hb st rest used len ∧ Has l st rest used len) ∧ Below hb w w'
theorem lP (st : St) (rest : List Int) (used : Nat) (len : Int) (k : Nat) (c : List Int) (h : rest.length = 64) (hk : k + c.length ≤ 64) :
 splice (cL st rest used len) (8 + k) (c.map (Value.int .u8)) = cL st (splice rest k c) used len := by
 unfold splice cL
 have h8 : (st.list.map (Value.int .u32)).length = 8 := by simp [St.list]
 rw [List.take_append, h8, List.take_of_length_le (by omega), Nat.add_sub_cancel_left, List.take_append_of_le_length (by simp; omega)]
 rw [List.drop_append, h8, List.drop_eq_nil_of_le (by omega), List.nil_append, List.length_map]
 rw [show 8 + k + c.length - 8 = k + c.length by omega, List.drop_append_of_le_length (by simp; omega)]
 simp [List.map_take, List.map_drop]
theorem CJ : Tryz.prog.arrayLen 172 = 64 := by kernel_rfl
theorem JV : Tryz.prog.underlying 172 = some (.array (Tryz.prog.arrayLen 172) (Tryz.prog.elem 172)) := by kernel_rfl
theorem BD (w : World) : (sizeOf (Tryz.prog.elem 172)).run Tryz.prog w = .ok 1 w := by kernel_rfl
theorem mD (hb used : Nat) (h : used < 64) (w : World) : (Instr.sliceAt 172 (.pointer (some ⟨hb, 8, none⟩)) (some (.int .i64 used)) none none).run Tryz.prog w = .ok (.slice (some ⟨hb, 8 + used, none⟩) (64 - used) (64 - used)) w := by
 rw [run_sliceAt_array_l w 172 _ JV .i64 used (by omega) (by rw [CJ]; omega), BD, CJ]
 simp [slicedAt, Addr.add_mid, show 64 ≠ used by omega]
theorem sX (hb : Nat) (w : World) : (Instr.sliceAt 172 (.pointer (some ⟨hb, 8, none⟩)) none none none).run Tryz.prog w = .ok (.slice (some ⟨hb, 8, none⟩) 64 64) w := by
 rw [run_sliceAt_array_all w 172 _ JV, BD, CJ]
 simp [slicedAt, Addr.add_mid]
theorem Tryz.info5b : (Tryz.prog.info? 5).map (·.size) = some 1 := by kernel_rfl
theorem vA (hb : Nat) (sp : Option Addr) (n cap : Nat) (b l : List Int) (st : St) (rest : List Int) (used : Nat) (w : World) (hh : HashIn w hb st rest used l.length) (ha : Has l st rest used l.length)
 (hs : Src w hb sp n cap b) (hbd : l.length + n ≤ 1099511627776) (h0 : 0 < used) (h1 : used + n < 64) :
 Calls Tryz.prog 146 #[.pointer (some ⟨hb, 0, none⟩), .slice sp n cap] w (oE hb w (l ++ b)) := by
 obtain rfl := hs.len
 have c73 := hh.lenAt
 have f73 := hh.free 73
 have c72 := hh.usedAt
 have HA := zh ha; have HS := zh hs; clear ha hs
 go_enter Tryz.func146, Tryz.ntmps146
 go_wp2_with fail
 generalize hw1 : World.setCell w _ _ = w1
 have hh1 : HashIn w1 hb st rest used ((l.length : Int) + b.length) := by rw [← hw1]; exact hh.stored 73 _ hh.rl (mN _ _ _ _ _ hh.rl)
 have hbe1 : Below hb w w1 := by rw [← hw1]; exact (Below.refl hb w).setCell (p := ⟨hb, 73, none⟩) (Nat.le_refl _) _
 have HS1 := zh (HS.out.below hbe1 (Nat.le_refl _))
 clear hw1 c73 f73 c72 HS
 have c72 := hh1.usedAt
 have hn : (b.map (Value.int .u8)).length = Nat.min b.length (64 - used) := by rw [List.length_map, HS1.out.len]; exact (Nat.min_eq_left (by omega)).symm
 have HN := zh hn; clear hn
 have hsl := mD hb used (by omega)
 have HB := zh hh1.blk
 have hpos := HS1.out.pos
 have HP := zh hpos; clear hpos
 have hfit : 8 + used + (b.map (Value.int .u8)).length ≤ (cL st rest used ((l.length : Int) + b.length)).length := by rw [dN _ _ _ _ hh1.rl, List.length_map, HS1.out.len]; omega
 have HF := zh hfit; clear hfit
 go_region_law (refine step_copy_splice rfl (.tmp 27) (.tmp 28) 22 22 rfl 5 Tryz.underlying22 Tryz.info5b _ _ _ _ _ _ rfl rfl hb (8 + used) _ 174 HB.out (b.map (Value.int .u8)) HN.out (fun h => ⟨rfl, HP.out h⟩) HF.out (gG _ _) hb w1 ((Below.refl _ _).drew) (Nat.le_refl _) ?_; intro w2 hg2 hb2)
 have hh2 : HashIn w2 hb st (splice rest used b) used ((l.length : Int) + b.length) := ⟨by rw [hg2.out, lP _ _ _ _ _ _ hh1.rl (by rw [HS1.out.len]; omega)], by rw [length_splice _ _ _ (by rw [HS1.out.len, hh1.rl]; omega)]; exact hh1.rl⟩
 have hbe2 := hbe1.trans hb2
 clear hg2 hb2 c72 hsl HB HP HF HN hbe1
 have c72 := hh2.usedAt
 have f72 := hh2.free 72
 go_wp2
 generalize hw3 : World.setCell w2 _ _ = w3
 have hh3 : HashIn w3 hb st (splice rest used b) (used + b.length) ((l.length : Int) + b.length) := by
  rw [← hw3]; exact hh2.stored 72 (.int .i64 ((used + b.length : Nat) : Int)) hh2.rl (jC _ _ _ _ _ hh2.rl)
 have hbe3 : Below hb w w3 := by rw [← hw3]; exact hbe2.setCell (p := ⟨hb, 72, none⟩) (Nat.le_refl _) _
 go_end0
 exact ⟨rfl, ⟨_, _, _, _, hh3, HA.out.small b hh.rl h1 HS1.out.byt⟩, hbe3⟩
def NQ : Value → Nat | .slice _ n _ => n | _ => 0
theorem HashIn.spliced {w w2 : World} {hb : Nat} {st : St} {rest : List Int} {used : Nat} {len : Int} (h : HashIn w hb st rest used len) {k : Nat} {c : List Int} (hk : k + c.length ≤ 64)
 (hg : Hid (w2.heap[hb]? = some (.cells (splice (cL st rest used len) (8 + k) (c.map (Value.int .u8))).toArray 174 (0, 0)))) : HashIn w2 hb st (splice rest k c) used len :=
 ⟨by rw [hg.out, lP _ _ _ _ _ _ h.rl hk], by rw [length_splice _ _ _ (by rw [h.rl]; exact hk)]; exact h.rl⟩
theorem Src.posTake {w : World} {B : Nat} {sp : Option Addr} {n cap : Nat} {b : List Int} (h : Src w B sp n cap b) (m : Nat) (hp : 0 < ((b.take m).map (Value.int .u8)).length) : ∃ ad, sp = some ad ∧ ∀ j v, ((b.take m).map (Value.int .u8))[j]? = some v → w.cell? (ad.add j) = some v := by
 obtain ⟨ad, e, hc⟩ := h.pos (by simp at hp ⊢; omega)
 refine ⟨ad, e, fun j v hv => hc j v ?_⟩
 rw [List.map_take, List.getElem?_take] at hv
 split at hv
 ·exact hv
 ·cases hv
theorem Src.cut {w : World} {B bb off n cap : Nat} {b : List Int} (h : Src w B (some ⟨bb, off, none⟩) n cap b) (m : Nat) (hm : m ≤ n) :
 Src w B (if cap = m then some ⟨bb, off, none⟩ else some ⟨bb, off + m, none⟩) (n - m) (cap - m) (b.drop m) := by
 refine ⟨by rw [List.length_drop, h.len], h.byt.drop m, fun hn => ?_⟩
 obtain ⟨b', o', e, hlt, hcap, hc⟩ := h.cells (by omega)
 injection e with e; injection e with e1 e2; subst e1 e2
 refine ⟨bb, off + m, by rw [if_neg (by omega)], hlt, by omega, fun j hj => ?_⟩
 have := hc (m + j) (by omega)
 rw [Nat.add_assoc, this]
 simp [List.getD_eq_getElem?_getD]
theorem yT (hb : Nat) (sp : Option Addr) (n cap : Nat) (b l : List Int) (st : St) (rest : List Int) (w : World) (hh : HashIn w hb st rest 0 l.length) (ha : Has l st rest 0 l.length)
 (hs : Src w hb sp n cap b) (hk : KayIn w) (hk0 : 1 < hb) (hbd : l.length + n ≤ 1099511627776) :
 Calls Tryz.prog 146 #[.pointer (some ⟨hb, 0, none⟩), .slice sp n cap] w (oE hb w (l ++ b)) := by
 obtain rfl := hs.len
 have c73 := hh.lenAt
 have f73 := hh.free 73
 have c72 := hh.usedAt
 have HA := zh ha; have HS := zh hs; have HK := zh hk; clear ha hs hk
 go_enter Tryz.func146, Tryz.ntmps146
 go_wp2_with fail
 generalize hw1 : World.setCell w _ _ = w1
 have hh1 : HashIn w1 hb st rest 0 ((l.length : Int) + b.length) := by rw [← hw1]; exact hh.stored 73 _ hh.rl (mN _ _ _ _ _ hh.rl)
 have hbe1 : Below hb w w1 := by rw [← hw1]; exact (Below.refl hb w).setCell (p := ⟨hb, 73, none⟩) (Nat.le_refl _) _
 clear hw1 c73 f73 c72
 go_loopw [1] (fun v wr => ∃ (k n' cap' : Nat) (ad : Option Addr) (st' : St) (rest' : List Int) (used' : Nat), Hid (n' = b.length - k) ∧ v = .slice ad n' cap' ∧ Src w hb ad n' cap' (b.drop k) ∧ HashIn wr hb st' rest' used' ((l.length : Int) + b.length) ∧ Mid l b k st' ∧ Byt rest' ∧ Below hb w wr) (fun v _ => NQ v)
 case atStart => exact ⟨0, _, _, _, st, rest, 0, rfl, rfl, HS.out, hh1, HA.out.mid0 b, HA.out.hbyt, hbe1⟩
 case round =>
  obtain ⟨k, n', cap', ad, st', rest', used', hn', rfl, hsr, hhr, hmr, hbr, hber⟩ := hrel
  clear hh1 hbe1
  have hle := hmr.le
  by_cases hge : 64 ≤ n'
  ·obtain ⟨bb, off, rfl, hlt, hcap, hcell⟩ := hsr.cells (by omega)
   have AJ := zh hcell; clear hcell
   have hcut := hsr.cut 64 hge
   have HCUT := zh hcut; clear hcut
   have HNR := zh hsr; clear hsr
   have HMR := zh hmr; clear hmr
   go_wp2_with fail
   refine (jV hb bb off cap' ((b.drop k).take 64) st' rest' used' _ wr (by omega) ?_ ?_ ?_ ?_ (by omega) hhr).mono ?_
   ·intro j hj
    rw [hber.cell (p := ⟨bb, off + j, none⟩) hlt, AJ.out j (by omega)]
    simp [List.getD_eq_getElem?_getD, hj]
   ·exact Nat.lt_trans hlt hhr.lt
   ·exact ((HNR.out.byt).take 64).at_
   ·exact HK.out.below hber (by omega)
   ·rintro e w' ⟨rfl, hh', hbe'⟩
    have hh64 : k + 64 ≤ b.length := by have := hn'.out; omega
    go_wp2
    go_roundw
    case rel =>
     refine ⟨k + 64, n' - 64, cap' - 64, _, _, rest', used', by show _ = _; have := hn'.out; omega, rfl, ?_, hh', HMR.out.step hh64, hbr, hber.trans hbe'⟩
     have := HCUT.out
     rw [List.drop_drop] at this
     exact this
    case measure => simp [NQ]; omega
  ·have hd : (b.drop k).length = n' := hsr.len
   have hn : ((b.drop k).map (Value.int .u8)).length = Nat.min n' 64 := by rw [List.length_map, hd]; exact (Nat.min_eq_left (by omega)).symm
   have HN := zh hn; clear hn
   have hpos := (hsr.below hber (Nat.le_refl _)).pos
   have HP := zh hpos; clear hpos
   have hfit : 8 + 0 + ((b.drop k).map (Value.int .u8)).length ≤ (cL st' rest' used' ((l.length : Int) + b.length)).length := by rw [dN _ _ _ _ hhr.rl, List.length_map, hd]; omega
   have HF := zh hfit; clear hfit
   have HBK := zh hhr.blk
   have HD := zh hd; clear hd
   have HSR := zh hsr; clear hsr
   have HMR := zh hmr; clear hmr
   go_wp2_with (refine wpList_copy_splice rfl (.tmp 65) (.tmp 66) 22 22 rfl 5 Tryz.underlying22 Tryz.info5b _ _ _ _ _ _ rfl rfl hb (8 + 0) _ 174 HBK.out ((b.drop k).map (Value.int .u8)) HN.out (fun h => ⟨rfl, HP.out h⟩) HF.out (gG _ _) hb wr (Below.refl _ _) (Nat.le_refl _) ?_; intro w2 hg2 hb2; have hh2 := hhr.spliced (by rw [HD.out]; omega) hg2; have c72 := hh2.usedAt; have f72 := hh2.free 72; clear hg2)
   generalize hw3 : World.setCell w2 _ _ = w3
   have hh3 : HashIn w3 hb st' (splice rest' 0 (b.drop k)) (b.length - k) ((l.length : Int) + b.length) := by
    rw [← hw3]; exact hh2.stored 72 (.int .i64 ((b.length - k : Nat) : Int)) hh2.rl (jC _ _ _ _ _ hh2.rl)
   have hbe3 : Below hb w w3 := by rw [← hw3]; exact (hber.trans hb2).setCell (p := ⟨hb, 72, none⟩) (Nat.le_refl _) _
   go_end0
   exact ⟨rfl, ⟨_, _, _, _, hh3, HMR.out.fin (by have := hn'.out; omega) hhr.rl hbr HS.out.byt⟩, hbe3⟩
theorem vB (hb : Nat) (sp : Option Addr) (n cap : Nat) (b l : List Int) (st : St) (rest : List Int) (used : Nat) (w : World) (hh : HashIn w hb st rest used l.length) (ha : Has l st rest used l.length)
 (hs : Src w hb sp n cap b) (hk : KayIn w) (hk0 : 1 < hb) (hbd : l.length + n ≤ 1099511627776) (h0 : 0 < used) (h1 : 64 ≤ used + n) (hu : used < 64) :
 Calls Tryz.prog 146 #[.pointer (some ⟨hb, 0, none⟩), .slice sp n cap] w (oE hb w (l ++ b)) := by
 obtain rfl := hs.len
 obtain ⟨b0, o0, rfl, hlt0, hcap0, hcell0⟩ := hs.cells (by omega)
 clear hcell0
 have c73 := hh.lenAt
 have f73 := hh.free 73
 have c72 := hh.usedAt
 have HA := zh ha; have HS := zh hs; have HK := zh hk; clear ha hs hk
 go_enter Tryz.func146, Tryz.ntmps146
 go_wp2_with fail
 generalize hw1 : World.setCell w _ _ = w1
 have hh1 : HashIn w1 hb st rest used ((l.length : Int) + b.length) := by rw [← hw1]; exact hh.stored 73 _ hh.rl (mN _ _ _ _ _ hh.rl)
 have hbe1 : Below hb w w1 := by rw [← hw1]; exact (Below.refl hb w).setCell (p := ⟨hb, 73, none⟩) (Nat.le_refl _) _
 have HS1 := zh (HS.out.below hbe1 (Nat.le_refl _))
 clear hw1 c73 f73 c72
 have c72 := hh1.usedAt
 obtain ⟨m, hm⟩ : ∃ m, m = 64 - used := ⟨_, rfl⟩
 have hm1 : used + m ≤ 64 := by omega
 have hm2 : 64 ≤ used + m := by omega
 clear hm
 have hmb : m ≤ b.length := by omega
 have hct : (b.take m).length = m := by rw [List.length_take]; omega
 have hn : ((b.take m).map (Value.int .u8)).length = Nat.min b.length (64 - used) := by rw [List.length_map, hct]; have : m = 64 - used := by omega
                                                                                        rw [this]; exact (Nat.min_eq_right (by omega)).symm
 have HN := zh hn; clear hn
 have hsl := mD hb used hu
 have hsa := sX hb
 have HB := zh hh1.blk
 have hpos := HS1.out.posTake m
 have HP := zh hpos; clear hpos
 have hfit : 8 + used + ((b.take m).map (Value.int .u8)).length ≤ (cL st rest used ((l.length : Int) + b.length)).length := by rw [dN _ _ _ _ hh1.rl, List.length_map, hct]; omega
 have HF := zh hfit; clear hfit
 have hmid : Mid l b m (oC st (splice rest used (b.take m))) := by
  have e : m = 64 - used := by omega
  rw [e]; exact HA.out.mid1 b hh.rl h0 h1
 have HMID := zh hmid; clear hmid
 have hbyt3 : Byt (splice rest used (b.take m)) := HA.out.hbyt.splice (HS.out.byt.take m) used
 have ES := zh hbyt3; clear hbyt3
 have JN := zh (HS.out.cut m hmb)
 obtain ⟨c, hc⟩ : ∃ c, c = b.take m := ⟨_, rfl⟩
 rw [← hc] at hct HN HP HF HMID ES
 clear hc
 have HCT := zh hct; clear hct
 go_region_law (refine step_copy_splice rfl (.tmp 27) (.tmp 28) 22 22 rfl 5 Tryz.underlying22 Tryz.info5b _ _ _ _ _ _ rfl rfl hb (8 + used) _ 174 HB.out (c.map (Value.int .u8)) HN.out (fun h => ⟨rfl, HP.out h⟩) HF.out (gG _ _) hb w1 ((Below.refl _ _).drew) (Nat.le_refl _) ?_; intro w2 hg2 hb2)
 have hh2 := hh1.spliced (by rw [HCT.out]; omega) hg2
 have hbe2 := hbe1.trans hb2
 clear hg2 hb2 c72 hsl HB HP HF HN hbe1
 simp only [HCT.out]
 have c72 := hh2.usedAt
 have f72 := hh2.free 72
 go_wp2_with fail
 generalize hw3 : World.setCell w2 _ _ = w3
 have hh3 : HashIn w3 hb st (splice rest used c) (used + m) ((l.length : Int) + b.length) := by
  rw [← hw3]; exact hh2.stored 72 (.int .i64 ((used + m : Nat) : Int)) hh2.rl (jC _ _ _ _ _ hh2.rl)
 have hbe3 : Below hb w w3 := by rw [← hw3]; exact hbe2.setCell (p := ⟨hb, 72, none⟩) (Nat.le_refl _) _
 clear hw3 hbe2 hh2 c72 f72
 refine (jV hb hb 8 64 (splice rest used c) st (splice rest used c) (used + m) _ w3 (by omega) ?_ hh3.lt ES.out.at_ (HK.out.below hbe3 (by omega)) (by omega) hh3).mono ?_
 ·exact fun j hj => hh3.byte j hj
 rintro e w4 ⟨rfl, hh4, hb4⟩
 have hbe4 := hbe3.trans hb4
 clear hb4 hbe3 hh3
 have hdec : decide ((used : Int) + m < 64) = false := by simp; omega
 go_wp2_with fail
 all_goals
  have hsrc4 := JN.out
  first
   | rw [if_neg (by omega)] at hsrc4
   | rw [if_pos (by omega), show cap - m = 0 by omega] at hsrc4
  go_loopw [1] (fun v wr => ∃ (k n' cap' : Nat) (ad : Option Addr) (st' : St) (rest' : List Int) (used' : Nat), Hid (n' = b.length - k) ∧ v = .slice ad n' cap' ∧ Src w hb ad n' cap' (b.drop k) ∧ HashIn wr hb st' rest' used' ((l.length : Int) + b.length) ∧ Mid l b k st' ∧ Byt rest' ∧ Below hb w wr) (fun v _ => NQ v)
  case atStart => exact ⟨m, _, _, _, _, _, _, rfl, rfl, hsrc4, hh4, HMID.out, ES.out, hbe4⟩
  case round =>
   obtain ⟨k, n', cap', ad, st', rest', used', hn', rfl, hsr, hhr, hmr, hbr, hber⟩ := hrel
   clear hh4 hbe4 hsrc4
   have hle := hmr.le
   by_cases hge : 64 ≤ n'
   ·obtain ⟨bb, off, rfl, hlt, hcap, hcell⟩ := hsr.cells (by omega)
    have AJ := zh hcell; clear hcell
    have hcut := hsr.cut 64 hge
    have HCUT := zh hcut; clear hcut
    have HNR := zh hsr; clear hsr
    have HMR := zh hmr; clear hmr
    go_wp2_with fail
    refine (jV hb bb off cap' ((b.drop k).take 64) st' rest' used' _ wr (by omega) ?_ ?_ ?_ ?_ (by omega) hhr).mono ?_
    ·intro j hj
     rw [hber.cell (p := ⟨bb, off + j, none⟩) hlt, AJ.out j (by omega)]
     simp [List.getD_eq_getElem?_getD, hj]
    ·exact Nat.lt_trans hlt hhr.lt
    ·exact ((HNR.out.byt).take 64).at_
    ·exact HK.out.below hber (by omega)
    ·rintro e w' ⟨rfl, hh', hbe'⟩
     have hh64 : k + 64 ≤ b.length := by have := hn'.out; omega
     by_cases hc64 : cap' = 64
     ·have hcut := HCUT.out
      rw [if_pos hc64, List.drop_drop] at hcut
      have HC2 := zh hcut; clear hcut
      go_wp2
      go_roundw
      case rel => exact ⟨k + 64, n' - 64, cap' - 64, some ⟨bb, off, none⟩, oC st' ((b.drop k).take 64), rest', used', by show _ = _; have := hn'.out; omega, by first | rfl | simp [hc64], HC2.out, hh', HMR.out.step hh64, hbr, hber.trans hbe'⟩
      case measure => simp [NQ]; omega
     ·have hcut := HCUT.out
      rw [if_neg hc64, List.drop_drop] at hcut
      have HC2 := zh hcut; clear hcut
      go_wp2
      go_roundw
      case rel => exact ⟨k + 64, n' - 64, cap' - 64, some ⟨bb, off + 64, none⟩, oC st' ((b.drop k).take 64), rest', used', by show _ = _; have := hn'.out; omega, by first | rfl | simp [hc64], HC2.out, hh', HMR.out.step hh64, hbr, hber.trans hbe'⟩
      case measure => simp [NQ]; omega
   ·have hd : (b.drop k).length = n' := hsr.len
    have hn : ((b.drop k).map (Value.int .u8)).length = Nat.min n' 64 := by rw [List.length_map, hd]; exact (Nat.min_eq_left (by omega)).symm
    have HN := zh hn; clear hn
    have hpos := (hsr.below hber (Nat.le_refl _)).pos
    have HP := zh hpos; clear hpos
    have hfit : 8 + 0 + ((b.drop k).map (Value.int .u8)).length ≤ (cL st' rest' used' ((l.length : Int) + b.length)).length := by rw [dN _ _ _ _ hhr.rl, List.length_map, hd]; omega
    have HF := zh hfit; clear hfit
    have HBK := zh hhr.blk
    have HD := zh hd; clear hd
    have HSR := zh hsr; clear hsr
    have HMR := zh hmr; clear hmr
    go_wp2_with (refine wpList_copy_splice rfl (.tmp 65) (.tmp 66) 22 22 rfl 5 Tryz.underlying22 Tryz.info5b _ _ _ _ _ _ rfl rfl hb (8 + 0) _ 174 HBK.out ((b.drop k).map (Value.int .u8)) HN.out (fun h => ⟨rfl, HP.out h⟩) HF.out (gG _ _) hb wr (Below.refl _ _) (Nat.le_refl _) ?_; intro w2 hg2 hb2; have hh2 := hhr.spliced (by rw [HD.out]; omega) hg2; have c72 := hh2.usedAt; have f72 := hh2.free 72; clear hg2)
    generalize hw3 : World.setCell w2 _ _ = w3
    have hh3 : HashIn w3 hb st' (splice rest' 0 (b.drop k)) (b.length - k) ((l.length : Int) + b.length) := by
     rw [← hw3]; exact hh2.stored 72 (.int .i64 ((b.length - k : Nat) : Int)) hh2.rl (jC _ _ _ _ _ hh2.rl)
    have hbe3 : Below hb w w3 := by rw [← hw3]; exact (hber.trans hb2).setCell (p := ⟨hb, 72, none⟩) (Nat.le_refl _) _
    go_end0
    exact ⟨rfl, ⟨_, _, _, _, hh3, HMR.out.fin (by have := hn'.out; omega) hhr.rl hbr HS.out.byt⟩, hbe3⟩
theorem AS (hb : Nat) (sp : Option Addr) (n cap : Nat) (b l : List Int) (st : St) (rest : List Int) (used : Nat) (len : Int) (w : World) (hh : HashIn w hb st rest used len) (ha : Has l st rest used len)
 (hs : Src w hb sp n cap b) (hk : KayIn w) (hk0 : 1 < hb) (hbd : l.length + n ≤ 1099511627776) :
 Calls Tryz.prog 146 #[.pointer (some ⟨hb, 0, none⟩), .slice sp n cap] w (oE hb w (l ++ b)) := by
 obtain rfl := ha.hlen
 have hu := ha.hused
 by_cases h0 : used = 0
 ·subst h0; exact yT hb sp n cap b l st rest w hh ha hs hk hk0 hbd
 ·by_cases h1 : used + n < 64
  ·exact vA hb sp n cap b l st rest used w hh ha hs hbd (by omega) h1
  ·exact vB hb sp n cap b l st rest used w hh ha hs hk hk0 hbd (by omega) (by omega) (by omega)
theorem lG {P : Program} (w : World) (dT ty elem : TypeId) (hu : P.underlying dT = some (.slice elem)) (hz : ∀ w, (zeroValue elem).run P w = .ok (.int .u8 0) w) (g off n c : Nat) (hn : 0 < n) (cur : List Value) (t : TypeId)
 (hg : w.heap[g]? = some (.cells cur.toArray t (0, 0))) (hfit : off + n ≤ cur.length) :
 (Builtin.clear_ #[dT] ty #[.slice (some ⟨g, off, none⟩) n c]).run P w = .ok (.tuple #[]) (w.setRow g (splice cur off (List.replicate n (.int .u8 0))).toArray) := by
 have hzc : (Builtin.zeroCells (Value.int .u8 0).cells n).toList = List.replicate n (.int .u8 0) := by
  simp [Builtin.zeroCells, Value.cells]
  apply List.ext_getElem
  ·simp
  ·intro i h1 h2
   simp [Nat.mod_one]
 have hst := run_storeCells_at P g off t (List.replicate n (.int .u8 0)) 0 cur.toArray w hg (by simpa using hfit) (by intro v hv'; rw [List.eq_of_mem_replicate hv']; rfl)
 obtain ⟨m, rfl⟩ : ∃ m, n = m + 1 := ⟨n - 1, by omega⟩
 simp [Builtin.clear_, run_underlying hu, hz, hzc, hst, splice]
theorem kN {P : Program} (w : World) (dT ty elem : TypeId) (hu : P.underlying dT = some (.slice elem)) (a : Option Addr) (c : Nat) :
 (Builtin.clear_ #[dT] ty #[.slice a 0 c]).run P w = .ok (.tuple #[]) w := by
 cases a <;> simp [Builtin.clear_, run_underlying hu]
theorem uH {w0 w : World} {g : Nat} (h : w0.grownBy w (some g)) (cs : Array Value) : w0.grownBy (w.setRow g cs) (some g) :=
 ⟨h.os, h.tape, h.output, by simp; exact h.size, fun k hk hne => (setRow_other w g k cs (fun e => hne (by rw [e]))).trans (h.block k hk hne)⟩
theorem RowIn.grown {w w' : World} {b g : Nat} {t : TypeId} {k : IntKind} {L : List Int} (h : RowIn w b t k L) (hg : w.grownBy w' (some g)) (hne : b ≠ g) : RowIn w' b t k L := by
 unfold RowIn; rw [hg.block b h.lt (fun e => hne (by injection e))]; exact h
theorem qC {P : Program} {ops : Array Oper} {o : Oper} {a : Act} {w : World} {K : Act → World → Prop} {Q : Exit → Act → World → Prop} {E : Prop} (hgd : o.guard = none) (d : Operand) (dT : TypeId)
 (ho : o.op = .call { callee := .builtin .clear, args := #[d], argTypes := #[dT] }) (elem : TypeId) (hu : P.underlying dT = some (.slice elem)) (hz : ∀ w, (zeroValue elem).run P w = .ok (.int .u8 0) w)
 (dp : Option Addr) (n c : Nat) (hd : a.eval d = .slice dp n c)
 (g off : Nat) (cur : List Value) (t : TypeId) (hg : w.heap[g]? = some (.cells cur.toArray t (0, 0)))
 (hpos : 0 < n → dp = some ⟨g, off, none⟩) (hfit : off + n ≤ cur.length) (w0 : World) (hb : w0.grownBy w (some g))
 (h : ∀ w', Hid (w'.heap[g]? = some (.cells (splice cur off (List.replicate n (.int .u8 0))).toArray t (0, 0))) → w0.grownBy w' (some g) → K (a.put o.dst (.tuple #[])) w') :
 if Region.wanted o (yielded ops a.tmps) = true then Oper.wp P o a w K Q else E := by
 have hw : Region.wanted o (yielded ops a.tmps) = true := by simp [Region.wanted, hgd]
 rw [if_pos hw]
 by_cases h0 : n = 0
 ·subst h0
  have hrun := kN (P := P) w dT o.type elem hu dp c
  unfold Oper.wp
  simp [execOp, ho, resolve, invoke, builtin, hd, hrun, Result.andThen]
  exact h w (show _ = _ by simpa [splice] using hg) hb
 ·obtain rfl := hpos (by omega)
  have hrun := lG (P := P) w dT o.type elem hu hz g off n c (by omega) cur t hg hfit
  unfold Oper.wp
  simp [execOp, ho, resolve, invoke, builtin, hd, hrun, Result.andThen]
  exact h _ (show _ = _ from setRow_heap w g _ _ t _ hg) (uH hb _)
theorem sP {P : Program} {w : World} {ops : Array Oper} {rest : List Oper} {o : Oper} {a : Act} {Q : Exit → Act → World → Prop} (hgd : o.guard = none) (d : Operand) (dT : TypeId)
 (ho : o.op = .call { callee := .builtin .clear, args := #[d], argTypes := #[dT] }) (elem : TypeId) (hu : P.underlying dT = some (.slice elem)) (hz : ∀ w, (zeroValue elem).run P w = .ok (.int .u8 0) w)
 (dp : Option Addr) (n c : Nat) (hd : a.eval d = .slice dp n c)
 (g off : Nat) (cur : List Value) (t : TypeId) (hg : w.heap[g]? = some (.cells cur.toArray t (0, 0)))
 (hpos : 0 < n → dp = some ⟨g, off, none⟩) (hfit : off + n ≤ cur.length) (w0 : World) (hb : w0.grownBy w (some g))
 (h : ∀ w', Hid (w'.heap[g]? = some (.cells (splice cur off (List.replicate n (.int .u8 0))).toArray t (0, 0))) → w0.grownBy w' (some g) → wpList P ops Q rest (a.put o.dst (.tuple #[])) w') :
 wpList P ops Q (o :: rest) a w := by
 refine wpList_plain hgd fun K hK => ?_
 by_cases h0 : n = 0
 ·subst h0
  have hrun := kN (P := P) w dT o.type elem hu dp c
  unfold Oper.wp
  simp [execOp, ho, resolve, invoke, builtin, hd, hrun, Result.andThen]
  exact hK _ _ (h w (show _ = _ by simpa [splice] using hg) hb)
 ·obtain rfl := hpos (by omega)
  have hrun := lG (P := P) w dT o.type elem hu hz g off n c (by omega) cur t hg hfit
  unfold Oper.wp
  simp [execOp, ho, resolve, invoke, builtin, hd, hrun, Result.andThen]
  exact hK _ _ (h _ (show _ = _ from setRow_heap w g _ _ t _ hg) (uH hb _))
theorem Tryz.zero5b (w : World) : (zeroValue 5).run Tryz.prog w = .ok (.int .u8 0) w := by kernel_rfl
end Go.Proofs.YtcligodahogpkaaGreatDoor
namespace Go.Proofs.YtcligodahogpkaaGreatDoor
open Go
def lb (m : Int) (i : Nat) : Int := m / 2 ^ (8 * i) % 256
def qO (m : Int) : List Int := [lb m 7, lb m 6, lb m 5, lb m 4, lb m 3, lb m 2, lb m 1, lb m 0]
theorem CL (m : Int) (i : Nat) : 0 ≤ lb m i ∧ lb m i < 256 := by unfold lb; omega
theorem FZ (m : Int) : Byt (qO m) := fun x hx => by
 simp only [qO, List.mem_cons, List.not_mem_nil, or_false] at hx
 rcases hx with rfl | rfl | rfl | rfl | rfl | rfl | rfl | rfl <;> exact CL _ _
def pad (l : List Int) : List Int := l ++ (128 :: (List.replicate ((119 - l.length % 64) % 64) 0 ++ qO (8 * (l.length : Int))))
theorem kB (l : List Int) : (pad l).length = l.length + 9 + (119 - l.length % 64) % 64 := by simp [pad, qO]; omega
def sha (l : List Int) : St := pN ((pad l).length / 64) iv (pad l)
def kM (r : List Int) (m : Int) : Nat → List Int
 | 0 => r
 | i + 1 => (kM r m i).set (63 - i) (lb m i)
theorem qF (r : List Int) (m : Int) (n : Nat) (h : Byt r) : Byt (kM r m n) := by
 induction n with
 | zero => exact h
 | succ n ih => exact ih.set _ _ (CL _ _).1 (CL _ _).2
theorem FH (a b : List Int) (i : Nat) (v : Int) (h : a.length = 56) (hi : 56 ≤ i) : (a ++ b).set i v = a ++ b.set (i - 56) v := by
 rw [List.set_append_right _ _ (by omega), h]
theorem mW (r : List Int) (m : Int) (h : r.length = 64) : kM r m 8 = r.take 56 ++ qO m := by
 obtain ⟨t, ht⟩ : ∃ t, t = r.drop 56 := ⟨_, rfl⟩
 have hl : t.length = 8 := by rw [ht, List.length_drop]; omega
 have e : r = r.take 56 ++ t := by rw [ht, List.take_append_drop]
 have hk : (r.take 56).length = 56 := by rw [List.length_take]; omega
 rw [e]
 generalize r.take 56 = k at *
 rw [show (k ++ t).take 56 = k by rw [List.take_append_of_le_length (by omega), List.take_of_length_le (by omega)]]
 match t, hl with
 | [_, _, _, _, _, _, _, _], _ => simp [kM, FH _ _ _ _ hk, qO]
theorem tV (rest : List Int) (u : Nat) (hr : rest.length = 64) (hu : u < 64) :
 splice (rest.set u 128) (u + 1) (List.replicate (63 - u) 0) = rest.take u ++ (128 :: List.replicate (63 - u) 0) := by
 unfold splice
 have h1 : (rest.set u 128).take (u + 1) = rest.take u ++ [128] := by
  rw [List.take_succ_eq_append_getElem (by rw [List.length_set]; omega)]
  simp [List.take_set]
  exact List.set_eq_of_length_le (by rw [List.length_take]; omega)
 rw [h1, List.drop_eq_nil_of_le (by simp; omega), List.append_nil, List.append_assoc, List.singleton_append]
theorem KD {l : List Int} {st : St} {rest : List Int} {used : Nat} {len : Int} (h : Has l st rest used len) (hr : rest.length = 64) (hu : used < 56) :
 oC st (kM (rest.take used ++ (128 :: List.replicate (63 - used) 0)) (8 * len) 8) = sha l := by
 have e := h.hused
 rw [mW _ _ (by simp; omega), h.htail, h.hlen]
 have hd : (l.drop (64 * (l.length / 64))).length = used := by rw [List.length_drop]; omega
 have e2 : (l.drop (64 * (l.length / 64)) ++ (128 :: List.replicate (63 - used) 0)).take 56 = l.drop (64 * (l.length / 64)) ++ (128 :: List.replicate (55 - used) 0) := by
  rw [List.take_append, hd, List.take_of_length_le (by omega)]
  obtain ⟨n, hn⟩ : ∃ n, 56 - used = n + 1 := ⟨55 - used, by omega⟩
  rw [hn, List.take_succ_cons, List.take_replicate, show min n (63 - used) = 55 - used by omega]
 rw [e2]
 unfold sha
 have hp := kB l
 have hz : (119 - l.length % 64) % 64 = 55 - used := by omega
 have hM : (pad l).length / 64 = l.length / 64 + 1 := by rw [hp, hz]; omega
 rw [hM, iS]
 unfold pad
 rw [fE _ _ _ _ (by omega), ← h.hst, hz, List.drop_append_of_le_length (by omega)]
 congr 1
 rw [List.take_of_length_le (by simp [qO]; omega)]
 simp
theorem KC {l : List Int} {st : St} {rest : List Int} {used : Nat} {len : Int} (h : Has l st rest used len) (hu : 56 ≤ used) :
 oC (oC st (rest.take used ++ (128 :: List.replicate (63 - used) 0))) (kM (List.replicate 64 0) (8 * len) 8) = sha l := by
 have e := h.hused
 rw [mW _ _ (by simp), h.htail, h.hlen]
 have hd : (l.drop (64 * (l.length / 64))).length = used := by rw [List.length_drop]; omega
 unfold sha
 have hp := kB l
 have hz : (119 - l.length % 64) % 64 = (63 - used) + 56 := by omega
 have hM : (pad l).length / 64 = l.length / 64 + 1 + 1 := by rw [hp, hz]; omega
 have hpad : pad l = (l ++ (128 :: List.replicate (63 - used) 0)) ++ (List.replicate 56 0 ++ qO (8 * (l.length : Int))) := by
  unfold pad; rw [hz, ← List.replicate_append_replicate]; simp
 rw [hM, hpad]
 have hlen1 : (l ++ (128 :: List.replicate (63 - used) 0)).length = 64 * (l.length / 64 + 1) := by simp; omega
 rw [iS, fE _ _ _ _ (by omega), iS, fE _ _ _ _ (by omega), ← h.hst]
 have hx : ((l ++ (128 :: List.replicate (63 - used) 0)).drop (64 * (l.length / 64))).take 64 = l.drop (64 * (l.length / 64)) ++ (128 :: List.replicate (63 - used) 0) := by
  rw [List.drop_append_of_le_length (by omega), List.take_of_length_le (by simp; omega)]
 rw [hx, ← hlen1, List.drop_left, List.take_of_length_le (l := List.replicate 56 0 ++ qO (8 * (l.length : Int))) (by simp [qO])]
 rw [List.take_replicate, show min 56 64 = 56 from rfl]
end Go.Proofs.YtcligodahogpkaaGreatDoor
namespace Go.Proofs.YtcligodahogpkaaGreatDoor
open Go.RowKit
theorem HashIn.cleared {w w2 : World} {hb : Nat} {st : St} {rest : List Int} {used : Nat} {len : Int} (h : HashIn w hb st rest used len) {k n : Nat} (hk : k + n ≤ 64)
 (hg : Hid (w2.heap[hb]? = some (.cells (splice (cL st rest used len) (8 + k) (List.replicate n (.int .u8 0))).toArray 174 (0, 0)))) : HashIn w2 hb st (splice rest k (List.replicate n 0)) used len :=
 h.spliced (by simpa using hk) (by rw [List.map_replicate]; exact hg)
theorem mV (hb u : Nat) (h : u < 64) : ∃ dp, (∀ w, (Instr.sliceAt 172 (.pointer (some ⟨hb, 8, none⟩)) (some (.int .i64 ((u : Int) + 1))) none none).run Tryz.prog w = .ok (.slice dp (63 - u) (63 - u)) w) ∧ (0 < 63 - u → dp = some ⟨hb, 8 + (u + 1), none⟩) := by
 by_cases h63 : u = 63
 ·subst h63
  refine ⟨some ⟨hb, 8, none⟩, fun w => ?_, fun h => absurd h (by omega)⟩
  rw [run_sliceAt_array_l w 172 _ JV .i64 _ (by omega) (by rw [CJ]; omega), BD, CJ]
  simp [slicedAt]
 ·refine ⟨some ⟨hb, 8 + (u + 1), none⟩, fun w => ?_, fun _ => rfl⟩
  have := mD hb (u + 1) (by omega) w
  rw [show 64 - (u + 1) = 63 - u by omega] at this
  rw [← this]; rfl
def EM (hb : Nat) (w : World) (l : List Int) (e : Ending) (w' : World) : Prop :=
 e = .returned (.agg ((aT (sha l).list).map (Value.int .u8)).toArray) ∧ Below hb w w'
theorem zX (hb : Nat) (l : List Int) (st : St) (rest : List Int) (used : Nat) (w : World) (hh : HashIn w hb st rest used l.length) (ha : Has l st rest used l.length)
 (hk : KayIn w) (hk0 : 1 < hb) (hbd : l.length ≤ 1099511627776) (hu : used < 56) :
 Calls Tryz.prog 147 #[.pointer (some ⟨hb, 0, none⟩)] w (EM hb w l) := by
 have HK := zh hk; clear hk
 have hlt := hh.lt
 have hrl := hh.rl
 have hone := KD ha hrl hu
 have EJ := zh hone; clear hone
 have HA := zh ha; clear ha
 have hres : RowIn (w.alloc (.cells (Array.replicate 32 (Value.int .u8 0)) 43)) w.heap.size 43 .u8 (List.replicate 32 0) := heap_alloc_new _ _
 have hh0 := hh.alloc (.cells (Array.replicate 32 (Value.int .u8 0)) 43)
 have hbe0 : Below w.heap.size w (w.alloc (.cells (Array.replicate 32 (Value.int .u8 0)) 43)) := (Below.refl _ _).alloc (Nat.le_refl _) _
 have AH := zh hres; have HH0 := zh hh0; have JR := zh hbe0; clear hres hh0 hbe0
 go_enter Tryz.func147, Tryz.ntmps147
 go_wp2_with fail
 generalize hw0 : World.alloc w _ = w0
 have hres : RowIn w0 w.heap.size 43 .u8 (List.replicate 32 0) := by rw [← hw0]; exact AH.out
 have hh0 : HashIn w0 hb st rest used l.length := by rw [← hw0]; exact HH0.out
 have hbe0 : Below w.heap.size w w0 := by rw [← hw0]; exact JR.out
 clear hw0 AH HH0 JR hh
 have c72 := hh0.usedAt
 have cu := hh0.byte used (by omega)
 have fu := hh0.free (8 + used)
 go_region
 go_wp2_with fail
 generalize hw1 : World.drew _ = w1
 have hh1 : HashIn w1 hb st (rest.set used 128) used l.length := by
  rw [← hw1]; exact (hh0.stored (8 + used) (.int .u8 128) (by rw [List.length_set]; exact hrl) (jD _ _ _ _ _ _ hrl (by omega))).drew
 have hg1 : w0.grownBy w1 (some hb) := by rw [← hw1]; exact cG (cE (World.grownBy.refl _ _) _ _)
 have hres1 := hres.grown hg1 (by omega)
 have hbe1 : Below hb w w1 := (hbe0.mono (by omega)).trans (bB hg1 (Nat.le_of_lt hh0.lt))
 clear hw1 c72 cu fu hg1 hh0 hres hbe0
 obtain ⟨dp, hsl, hdp⟩ := mV hb used (by omega)
 have HDP := zh hdp; clear hdp
 have HB := zh hh1.blk
 have hfit : 8 + (used + 1) + (63 - used) ≤ (cL st (rest.set used 128) used l.length).length := by rw [dN _ _ _ _ hh1.rl]; omega
 have HF := zh hfit; clear hfit
 have c72 := hh1.usedAt
 have hwr : IntKind.i64.wrap ((used : Int) + 1) = (used : Int) + 1 := by simp [IntKind.wrap, IntKind.bits, IntKind.signed]; omega
 go_region_law (refine qC rfl (.tmp 21) 22 rfl 5 Tryz.underlying22 Tryz.zero5b _ _ _ rfl hb (8 + (used + 1)) _ 174 HB.out HDP.out HF.out w1 (cG (World.grownBy.refl _ _)) ?_; intro w2 hg2 hb2)
 have hh2 := hh1.cleared (by omega) hg2
 rw [tV _ _ hrl (by omega)] at hh2
 have hres2 := hres1.grown hb2 (by omega)
 have hbe2 := hbe1.trans (bB hb2 (Nat.le_of_lt hh1.lt))
 have hby : Byt (rest.take used ++ (128 :: List.replicate (63 - used) 0)) := (HA.out.hbyt.take _).append (fun x hx => by
  rcases List.mem_cons.1 hx with h | h
  ·omega
  ·rw [List.eq_of_mem_replicate h]; omega)
 have ES := zh hby; clear hby
 clear hsl HDP HF HB hwr hg2 c72 hb2 hbe1 hres1 hh1
 have c72 := hh2.usedAt
 have c73 := hh2.lenAt
 obtain ⟨rx, hrx⟩ : ∃ rx, rx = rest.take used ++ (128 :: List.replicate (63 - used) 0) := ⟨_, rfl⟩
 rw [← hrx] at hh2 ES EJ
 clear hrx
 go_wp2_with fail
 clear c72 c73
 go_loopw [42] (fun i wr => ∃ k : Nat, k ≤ 8 ∧ i = .int .i64 k ∧ HashIn wr hb st (kM rx (8 * (l.length : Int)) k) used l.length ∧ w2.grownBy wr (some hb)) (fun i _ => 8 - (intOf i).toNat)
 case atStart => exact ⟨0, by omega, rfl, hh2, World.grownBy.refl _ _⟩
 case round =>
  obtain ⟨k, hk8, rfl, hhr, hgr⟩ := hrel
  by_cases hlt8 : k < 8
  ·have cb := hhr.byte (63 - k) (by omega)
   have fb := hhr.free (8 + (63 - k))
   go_wp2_with fail
   go_region
   go_wp2
   go_roundw
   case rel =>
    exact ⟨k + 1, by omega, by go_num, (hhr.stored (8 + (63 - k)) (.int .u8 (lb (8 * (l.length : Int)) k)) (by rw [List.length_set]; exact hhr.rl) (jD _ _ _ _ _ _ hhr.rl (by omega))).drew, cG (cE hgr _ _)⟩
   case measure => simp [intOf]; omega
  ·obtain rfl : k = 8 := by omega
   have hber := hbe2.trans (bB hgr (Nat.le_of_lt hh2.lt))
   have hresr := hres2.grown hgr (by omega)
   go_wp2_with fail
   refine (fK hb hb 8 64 (kM rx (8 * (l.length : Int)) 8) st _ used _ wr (by omega) (fun j hj => hhr.byte j hj) hhr.lt (qF _ _ _ ES.out).at_ (HK.out.below hber (by omega)) (by omega) hhr).mono ?_
   rintro e w4 ⟨rfl, hh4, hg4⟩
   rw [EJ.out] at hh4
   have hres4 := hresr.grown hg4 (by omega)
   have hbe4 := hber.trans (bB hg4 (Nat.le_of_lt hhr.lt))
   clear hresr hber hres2 hbe2 hh2 hgr hg4 hhr
   go_wp2_with fail
   refine (qX hb _ _ _ _ w4 hh4).mono ?_
   rintro e w5 ⟨rfl, hb5⟩
   have hres5 := hres4.below hb5 hres4.lt
   have hbe5 := hbe4.trans (hb5.mono (Nat.le_of_lt hh4.lt))
   clear hres4 hbe4 hb5 hh4
   have H2 := zh hres5; clear hres5
   have hi1 : (Tryz.prog.info? 43).map (·.size) = some ((aT (sha l).list).map (Value.int .u8)).toArray.size := by
    rw [List.size_toArray, List.length_map, aR, St.list_length]; exact Tryz.info25d
   have HI := zh hi1; clear hi1
   have hone := bE .u8 (aT (sha l).list)
   have hsz : ((List.replicate 32 0).map (Value.int .u8)).toArray.size = ((aT (sha l).list).map (Value.int .u8)).toArray.size := by simp [aR, St.list_length]
   have HO := zh hone; have HZ := zh hsz; clear hone hsz
   generalize hL : aT (sha l).list = L at *
   have HL := zh hL; clear hL
   go_wp2_with (refine wpList_store_row rfl 43 _ _ rfl w.heap.size _ rfl rfl 43 _ H2.out HI.out HZ.out HO.out ?_)
   exact bodyPost_ret (results_cell_row (P := Tryz.prog) rfl _ _ w.heap.size 43 _ (0, 0) _ rfl (H2.out.setRow _) Tryz.underlying43 rfl HI.out) rfl ⟨by rw [HL.out], below_setRow hbe5 (by omega) _⟩
theorem zW (hb : Nat) (l : List Int) (st : St) (rest : List Int) (used : Nat) (w : World) (hh : HashIn w hb st rest used l.length) (ha : Has l st rest used l.length)
 (hk : KayIn w) (hk0 : 1 < hb) (hbd : l.length ≤ 1099511627776) (hu : 56 ≤ used) (hu2 : used < 64) :
 Calls Tryz.prog 147 #[.pointer (some ⟨hb, 0, none⟩)] w (EM hb w l) := by
 have HK := zh hk; clear hk
 have hlt := hh.lt
 have hrl := hh.rl
 have hone := KC ha hu
 have EJ := zh hone; clear hone
 have HA := zh ha; clear ha
 have hres : RowIn (w.alloc (.cells (Array.replicate 32 (Value.int .u8 0)) 43)) w.heap.size 43 .u8 (List.replicate 32 0) := heap_alloc_new _ _
 have hh0 := hh.alloc (.cells (Array.replicate 32 (Value.int .u8 0)) 43)
 have hbe0 : Below w.heap.size w (w.alloc (.cells (Array.replicate 32 (Value.int .u8 0)) 43)) := (Below.refl _ _).alloc (Nat.le_refl _) _
 have AH := zh hres; have HH0 := zh hh0; have JR := zh hbe0; clear hres hh0 hbe0
 go_enter Tryz.func147, Tryz.ntmps147
 go_wp2_with fail
 generalize hw0 : World.alloc w _ = w0
 have hres : RowIn w0 w.heap.size 43 .u8 (List.replicate 32 0) := by rw [← hw0]; exact AH.out
 have hh0 : HashIn w0 hb st rest used l.length := by rw [← hw0]; exact HH0.out
 have hbe0 : Below w.heap.size w w0 := by rw [← hw0]; exact JR.out
 clear hw0 AH HH0 JR hh
 have c72 := hh0.usedAt
 have cu := hh0.byte used (by omega)
 have fu := hh0.free (8 + used)
 go_region
 go_wp2_with fail
 generalize hw1 : World.drew _ = w1
 have hh1 : HashIn w1 hb st (rest.set used 128) used l.length := by
  rw [← hw1]; exact (hh0.stored (8 + used) (.int .u8 128) (by rw [List.length_set]; exact hrl) (jD _ _ _ _ _ _ hrl (by omega))).drew
 have hg1 : w0.grownBy w1 (some hb) := by rw [← hw1]; exact cG (cE (World.grownBy.refl _ _) _ _)
 have hres1 := hres.grown hg1 (by omega)
 have hbe1 : Below hb w w1 := (hbe0.mono (by omega)).trans (bB hg1 (Nat.le_of_lt hh0.lt))
 clear hw1 c72 cu fu hg1 hh0 hres hbe0
 obtain ⟨dp, hsl, hdp⟩ := mV hb used (by omega)
 have HDP := zh hdp; clear hdp
 have HB := zh hh1.blk
 have hfit : 8 + (used + 1) + (63 - used) ≤ (cL st (rest.set used 128) used l.length).length := by rw [dN _ _ _ _ hh1.rl]; omega
 have HF := zh hfit; clear hfit
 have c72 := hh1.usedAt
 have hwr : IntKind.i64.wrap ((used : Int) + 1) = (used : Int) + 1 := by simp [IntKind.wrap, IntKind.bits, IntKind.signed]; omega
 go_region_law (refine qC rfl (.tmp 21) 22 rfl 5 Tryz.underlying22 Tryz.zero5b _ _ _ rfl hb (8 + (used + 1)) _ 174 HB.out HDP.out HF.out w1 (cG (World.grownBy.refl _ _)) ?_; intro w2 hg2 hb2)
 have hh2 := hh1.cleared (by omega) hg2
 rw [tV _ _ hrl (by omega)] at hh2
 have hres2 := hres1.grown hb2 (by omega)
 have hbe2 := hbe1.trans (bB hb2 (Nat.le_of_lt hh1.lt))
 have hby : Byt (rest.take used ++ (128 :: List.replicate (63 - used) 0)) := (HA.out.hbyt.take _).append (fun x hx => by
  rcases List.mem_cons.1 hx with h | h
  ·omega
  ·rw [List.eq_of_mem_replicate h]; omega)
 have ES := zh hby; clear hby
 clear hsl HDP HF HB hwr hg2 c72 hb2 hbe1 hres1 hh1
 have c72 := hh2.usedAt
 have c73 := hh2.lenAt
 obtain ⟨rx, hrx⟩ : ∃ rx, rx = rest.take used ++ (128 :: List.replicate (63 - used) 0) := ⟨_, rfl⟩
 rw [← hrx] at hh2 ES EJ
 clear hrx
 have hsa := sX hb
 go_wp2_with fail
 clear c72 c73
 refine (fK hb hb 8 64 rx st rx used _ w2 (by omega) (fun j hj => hh2.byte j hj) hh2.lt ES.out.at_ (HK.out.below hbe2 (by omega)) (by omega) hh2).mono ?_
 rintro e w3 ⟨rfl, hh3, hg3⟩
 have hres3 := hres2.grown hg3 (by omega)
 have hbe3 := hbe2.trans (bB hg3 (Nat.le_of_lt hh2.lt))
 clear hres2 hbe2 hh2 hg3 ES
 have HB := zh hh3.blk
 have hfit : 8 + 0 + 64 ≤ (cL (oC st rx) rx used l.length).length := by rw [dN _ _ _ _ hh3.rl]; omega
 have HF := zh hfit; clear hfit
 go_wp2_with (refine sP rfl (.tmp 36) 22 rfl 5 Tryz.underlying22 Tryz.zero5b _ _ _ rfl hb (8 + 0) _ 174 HB.out (fun _ => rfl) HF.out w3 (World.grownBy.refl _ _) ?_; intro w2 hg2 hb2; have hh2 := hh3.cleared (by omega) hg2; have c73 := hh2.lenAt; clear hg2)
 have e0 : splice rx 0 (List.replicate 64 0) = List.replicate 64 0 := by
  unfold splice; rw [List.take_zero, List.nil_append, List.drop_eq_nil_of_le (by rw [List.length_replicate, hh3.rl]; omega), List.append_nil]
 rw [e0] at hh2
 have hres2 := hres3.grown hb2 (by omega)
 have hbe2 := hbe3.trans (bB hb2 (Nat.le_of_lt hh3.lt))
 clear hres3 hbe3 hh3 HB HF hb2 c73 e0
 go_loopw [42] (fun i wr => ∃ k : Nat, k ≤ 8 ∧ i = .int .i64 k ∧ HashIn wr hb (oC st rx) (kM (List.replicate 64 0) (8 * (l.length : Int)) k) used l.length ∧ w2.grownBy wr (some hb)) (fun i _ => 8 - (intOf i).toNat)
 case atStart => exact ⟨0, by omega, rfl, hh2, World.grownBy.refl _ _⟩
 case round =>
  obtain ⟨k, hk8, rfl, hhr, hgr⟩ := hrel
  by_cases hlt8 : k < 8
  ·have cb := hhr.byte (63 - k) (by omega)
   have fb := hhr.free (8 + (63 - k))
   go_wp2_with fail
   go_region
   go_wp2
   go_roundw
   case rel =>
    exact ⟨k + 1, by omega, by go_num, (hhr.stored (8 + (63 - k)) (.int .u8 (lb (8 * (l.length : Int)) k)) (by rw [List.length_set]; exact hhr.rl) (jD _ _ _ _ _ _ hhr.rl (by omega))).drew, cG (cE hgr _ _)⟩
   case measure => simp [intOf]; omega
  ·obtain rfl : k = 8 := by omega
   have hber := hbe2.trans (bB hgr (Nat.le_of_lt hh2.lt))
   have hresr := hres2.grown hgr (by omega)
   go_wp2_with fail
   refine (fK hb hb 8 64 (kM (List.replicate 64 0) (8 * (l.length : Int)) 8) (oC st rx) _ used _ wr (by omega) (fun j hj => hhr.byte j hj) hhr.lt (qF _ _ _ (Byt.zeros 64)).at_ (HK.out.below hber (by omega)) (by omega) hhr).mono ?_
   rintro e w4 ⟨rfl, hh4, hg4⟩
   rw [EJ.out] at hh4
   have hres4 := hresr.grown hg4 (by omega)
   have hbe4 := hber.trans (bB hg4 (Nat.le_of_lt hhr.lt))
   clear hresr hber hres2 hbe2 hh2 hgr hg4 hhr
   go_wp2_with fail
   refine (qX hb _ _ _ _ w4 hh4).mono ?_
   rintro e w5 ⟨rfl, hb5⟩
   have hres5 := hres4.below hb5 hres4.lt
   have hbe5 := hbe4.trans (hb5.mono (Nat.le_of_lt hh4.lt))
   clear hres4 hbe4 hb5 hh4
   have H2 := zh hres5; clear hres5
   have hi1 : (Tryz.prog.info? 43).map (·.size) = some ((aT (sha l).list).map (Value.int .u8)).toArray.size := by
    rw [List.size_toArray, List.length_map, aR, St.list_length]; exact Tryz.info25d
   have HI := zh hi1; clear hi1
   have hone := bE .u8 (aT (sha l).list)
   have hsz : ((List.replicate 32 0).map (Value.int .u8)).toArray.size = ((aT (sha l).list).map (Value.int .u8)).toArray.size := by simp [aR, St.list_length]
   have HO := zh hone; have HZ := zh hsz; clear hone hsz
   generalize hL : aT (sha l).list = L at *
   have HL := zh hL; clear hL
   go_wp2_with (refine wpList_store_row rfl 43 _ _ rfl w.heap.size _ rfl rfl 43 _ H2.out HI.out HZ.out HO.out ?_)
   exact bodyPost_ret (results_cell_row (P := Tryz.prog) rfl _ _ w.heap.size 43 _ (0, 0) _ rfl (H2.out.setRow _) Tryz.underlying43 rfl HI.out) rfl ⟨by rw [HL.out], below_setRow hbe5 (by omega) _⟩
theorem zY (hb : Nat) (l : List Int) (st : St) (rest : List Int) (used : Nat) (len : Int) (w : World) (hh : HashIn w hb st rest used len) (ha : Has l st rest used len)
 (hk : KayIn w) (hk0 : 1 < hb) (hbd : l.length ≤ 1099511627776) :
 Calls Tryz.prog 147 #[.pointer (some ⟨hb, 0, none⟩)] w (EM hb w l) := by
 obtain rfl := ha.hlen
 have hu := ha.hused
 by_cases h : used < 56
 ·exact zX hb l st rest used w hh ha hk hk0 hbd h
 ·exact zW hb l st rest used w hh ha hk hk0 hbd (by omega) (by omega)
structure Part where
 sp : Option Addr
 n : Nat
 cap : Nat
 b : List Int
def Part.val (q : Part) : Value := .slice q.sp q.n q.cap
def cat (ps : List Part) : List Int := (ps.map Part.b).flatten
theorem lU (ps : List Part) (k : Nat) (h : k < ps.length) : cat (ps.take (k + 1)) = cat (ps.take k) ++ ps[k].b := by
 unfold cat; rw [List.take_succ_eq_append_getElem h, List.map_append, List.flatten_append]; simp
theorem pI (ps : List Part) (k : Nat) : (cat (ps.take k)).length ≤ (cat ps).length := by
 unfold cat
 have : ps = ps.take k ++ ps.drop k := (List.take_append_drop k ps).symm
 conv => rhs; rw [this]
 rw [List.map_append, List.flatten_append, List.length_append]
 exact Nat.le_add_right _ _
theorem Src.more {w : World} {B B' : Nat} {sp : Option Addr} {n cap : Nat} {b : List Int} (h : Src w B sp n cap b) (hB : B ≤ B') : Src w B' sp n cap b :=
 ⟨h.len, h.byt, fun hn => by
  obtain ⟨bb, off, e, hlt, hc, hcell⟩ := h.cells hn
  exact ⟨bb, off, e, by omega, hc, hcell⟩⟩
structure PartsIn (w : World) (B : Nat) (pa : Option Addr) (np : Nat) (ps : List Part) : Prop where
 len : ps.length = np
 cells : 0 < np → ∃ pb po, pa = some ⟨pb, po, none⟩ ∧ pb < B ∧ ∀ j (hj : j < ps.length), w.cell? ⟨pb, po + j, none⟩ = some ps[j].val
 srcs : ∀ q ∈ ps, Src w B q.sp q.n q.cap q.b
theorem PartsIn.below {w w' : World} {B B' : Nat} {pa : Option Addr} {np : Nat} {ps : List Part} (h : PartsIn w B pa np ps) (hb : Below B' w w') (hB : B ≤ B') : PartsIn w' B' pa np ps :=
 ⟨h.len, fun hn => by
  obtain ⟨pb, po, e, hlt, hc⟩ := h.cells hn
  exact ⟨pb, po, e, by omega, fun j hj => (hb.cell (p := ⟨pb, po + j, none⟩) (by show pb < B'; omega)).trans (hc j hj)⟩, fun q hq => ((h.srcs q hq).below hb hB).more hB⟩
def dg (l : List Int) : Array Value := ((aT (sha l).list).map (Value.int .u8)).toArray
def EC (w : World) (l : List Int) (e : Ending) (w' : World) : Prop := e = .returned (.agg (dg l)) ∧ Below w.heap.size w w'
theorem AZ (pa : Option Addr) (np ncap : Nat) (ps : List Part) (w : World) (hp : PartsIn w w.heap.size pa np ps) (hk : KayIn w) (hk0 : 1 < w.heap.size) (hbd : (cat ps).length ≤ 1099511627776) (hnp : np ≤ 1099511627776) :
 Calls Tryz.prog 103 #[.slice pa np ncap] w (EC w (cat ps)) := by
 have HK := zh hk; clear hk
 have HP := zh hp; clear hp
 have hres : RowIn (w.alloc (.cells (Array.replicate 32 (Value.int .u8 0)) 43)) w.heap.size 43 .u8 (List.replicate 32 0) := heap_alloc_new _ _
 have hbe0 : Below w.heap.size w (w.alloc (.cells (Array.replicate 32 (Value.int .u8 0)) 43)) := (Below.refl _ _).alloc (Nat.le_refl _) _
 have AH := zh hres; have JR := zh hbe0; clear hres hbe0
 have hz := IL
 go_enter Tryz.func103, Tryz.ntmps103
 go_wp2_with fail
 generalize hw0 : World.alloc w _ = w0
 have hres : RowIn w0 w.heap.size 43 .u8 (List.replicate 32 0) := by rw [← hw0]; exact AH.out
 have hbe0 : Below w.heap.size w w0 := by rw [← hw0]; exact JR.out
 clear hw0 AH JR
 refine (vX w0).mono ?_
 rintro e w1 ⟨rfl, hb1⟩
 have hres1 := hres.below hb1 hres.lt
 have hbe1 := hbe0.trans (hb1.mono hbe0.size)
 have hsz1 := hres1.lt
 clear hb1 hres hbe0
 have H0 := zh (heap_alloc_new w1 (.cells AR 174))
 have HI : Hid ((Tryz.prog.info? 174).map (·.size) = some uF.size) := Tryz.info60h
 go_wp2_with (refine wpList_store_row rfl 174 _ _ rfl w1.heap.size uF rfl rfl 174 AR H0.out HI.out rfl uE ?_)
 generalize hw2 : World.setRow _ _ _ = w2
 have hh2 : HashIn w2 w1.heap.size iv (List.replicate 64 0) 0 0 := ⟨by rw [← hw2]; exact setRow_heap _ _ _ _ _ _ H0.out, by simp⟩
 have hb2 : Below w1.heap.size w1 w2 := by rw [← hw2]; exact below_setRow ((Below.refl _ _).alloc (Nat.le_refl _) _) (Nat.le_refl _) _
 have hres2 := hres1.below hb2 hsz1
 have hbe2 := hbe1.trans (hb2.mono (Nat.le_of_lt hsz1))
 have hp2 : PartsIn w2 w1.heap.size pa np ps := (HP.out.below hbe2 (Nat.le_refl _)).below (Below.refl w1.heap.size w2) (Nat.le_of_lt hsz1)
 have HP2 := zh hp2
 have hlen := hp2.len
 have nO := zh hlen
 have hlen1 : np ≤ ps.length := by omega
 clear hp2 hlen hw2 H0 HI hz hres1 hbe1 hb2 HP
 generalize w1.heap.size = g at *
 go_loopw [9] (fun i wr => ∃ k : Nat, k ≤ np ∧ i = .int .i64 k ∧ (∃ st rest used len, HashIn wr g st rest used len ∧ Has (cat (ps.take k)) st rest used len) ∧ Below g w2 wr) (fun i _ => np - (intOf i).toNat)
 case atStart => exact ⟨0, by omega, rfl, ⟨_, _, _, _, hh2, Has.start _ (Byt.zeros 64)⟩, Below.refl _ _⟩
 case round =>
  obtain ⟨k, hkn, rfl, ⟨st, rest, used, len, hhr, har⟩, hber⟩ := hrel
  have HAR := zh har; clear har
  have hkr : KayIn wr := HK.out.below (hbe2.trans (hber.mono (Nat.le_of_lt hsz1))) hk0
  have HKR := zh hkr; clear hkr
  by_cases hlt : k < np
  ·have hk2 : k < ps.length := by omega
   obtain ⟨pb, po, rfl, hpb, hcell⟩ := HP2.out.cells (by omega)
   have ck : wr.cell? ⟨pb, po + k, none⟩ = some (.slice ps[k].sp ps[k].n ps[k].cap) := (hber.cell (p := ⟨pb, po + k, none⟩) hpb).trans (hcell k hk2)
   have hsr : Src wr g ps[k].sp ps[k].n ps[k].cap ps[k].b := (HP2.out.srcs _ (List.getElem_mem hk2)).below hber (Nat.le_refl _)
   have HSR := zh hsr; clear hsr
   have hcs := lU ps k hk2
   have hcl := pI ps (k + 1)
   rw [hcs, List.length_append, HSR.out.len] at hcl
   have HCS := zh hcs; clear hcs hcell
   generalize ps[k].sp = sp at *
   generalize ps[k].n = n at *
   generalize ps[k].cap = cap at *
   generalize ps[k].b = b at *
   go_wp2_with fail
   refine (AS g sp n cap b (cat (ps.take k)) st rest used len wr hhr HAR.out HSR.out HKR.out (by omega) (by omega)).mono ?_
   rintro e w3 ⟨rfl, hx, hb3⟩
   go_wp2
   go_roundw
   case rel => exact ⟨k + 1, by omega, by go_num, by rw [HCS.out]; exact hx, hber.trans hb3⟩
   case measure => simp [intOf]; omega
  ·obtain rfl : k = np := by omega
   have hall : cat (ps.take k) = cat ps := by rw [List.take_of_length_le (by rw [nO.out]; exact Nat.le_refl _)]
   rw [hall] at HAR
   clear hall
   go_wp2_with fail
   refine (zY g (cat ps) st rest used len wr hhr HAR.out HKR.out (by omega) hbd).mono ?_
   rintro e w4 ⟨rfl, hb4⟩
   have hres4 := hres2.below (hber.trans hb4) hsz1
   have hbe4 := hbe2.trans ((hber.trans hb4).mono (Nat.le_of_lt hsz1))
   clear hres2 hbe2 hb4 hber hhr HAR
   have H2 := zh hres4; clear hres4
   have hi1 : (Tryz.prog.info? 43).map (·.size) = some ((aT (sha (cat ps)).list).map (Value.int .u8)).toArray.size := by
    rw [List.size_toArray, List.length_map, aR, St.list_length]; exact Tryz.info25d
   have HI := zh hi1; clear hi1
   have hone := bE .u8 (aT (sha (cat ps)).list)
   have hsz : ((List.replicate 32 0).map (Value.int .u8)).toArray.size = ((aT (sha (cat ps)).list).map (Value.int .u8)).toArray.size := by simp [aR, St.list_length]
   have HO := zh hone; have HZ := zh hsz; clear hone hsz
   generalize hL : aT (sha (cat ps)).list = L at *
   have HL := zh hL; clear hL
   go_wp2_with (refine wpList_store_row rfl 43 _ _ rfl w.heap.size _ rfl rfl 43 _ H2.out HI.out HZ.out HO.out ?_)
   exact bodyPost_ret (results_cell_row (P := Tryz.prog) rfl _ _ w.heap.size 43 _ (0, 0) _ rfl (H2.out.setRow _) Tryz.underlying43 rfl HI.out) rfl ⟨by rw [dg, HL.out], below_setRow hbe4 (Nat.le_refl _) _⟩
theorem kX {w : World} {g B : Nat} {ps : List Part} (hg : w.heap[g]? = some (.cells (ps.map Part.val).toArray 22 (0, 0))) (hlt : g < B) (hs : ∀ q ∈ ps, Src w B q.sp q.n q.cap q.b) : PartsIn w B (some ⟨g, 0, none⟩) ps.length ps :=
 ⟨rfl, fun _ => ⟨g, 0, rfl, hlt, fun j hj => by rw [Nat.zero_add]; exact gH hg (by simp [hj])⟩, hs⟩
theorem bZ {w : World} {g B cap : Nat} {t : TypeId} {L : List Int} (hg : RowIn w g t .u8 L) (hL : Byt L) (hlt : g < B) (hc : L.length ≤ cap) : Src w B (some ⟨g, 0, none⟩) L.length cap L :=
 ⟨rfl, hL, fun _ => ⟨g, 0, rfl, hlt, hc, fun j hj => by rw [Nat.zero_add]; exact hg.get j hj⟩⟩
theorem aB (w : World) (o : Obj) : Below w.heap.size w (w.alloc o) := (Below.refl _ _).alloc (Nat.le_refl _) _
theorem aK (w : World) (o : Obj) : (w.alloc o).heap.size = w.heap.size + 1 := by simp
theorem KE (w : World) (t : TypeId) (k : IntKind) (L : List Int) : RowIn (w.alloc (.cells (L.map (Value.int k)).toArray t)) w.heap.size t k L := heap_alloc_new _ _
theorem bY (l : List Int) : (dg l).size = 32 := by simp [dg, aR, St.list_length]
theorem cZ (l : List Int) : (dg l).all (·.oneCell') = true := bE _ _
theorem bP (l : List Int) : (Tryz.prog.info? 43).map (·.size) = some (dg l).size := by rw [bY]; exact Tryz.info25d
def Zrow (w : World) (b : Nat) : Prop := w.heap[b]? = some (.cells (Array.replicate 32 (Value.int .u8 0)) 43 (0, 0))
theorem Zrow.new (w : World) : Zrow (w.alloc (.cells (Array.replicate 32 (Value.int .u8 0)) 43)) w.heap.size := heap_alloc_new _ _
theorem Zrow.below {w w' : World} {b B : Nat} (h : Zrow w b) (hb : Below B w w') (hlt : b < B) : Zrow w' b := (hb.block b hlt).trans h
theorem Zrow.lt {w : World} {b : Nat} (h : Zrow w b) : b < w.heap.size := (Array.getElem?_eq_some_iff.1 h).1
structure NewZ (w w0 : World) : Prop where
 z : Zrow w0 w.heap.size
 b : Below w.heap.size w w0
 s : w0.heap.size = w.heap.size + 1
theorem NewZ.new (w : World) : NewZ w (w.alloc (.cells (Array.replicate 32 (Value.int .u8 0)) 43)) := ⟨Zrow.new w, aB _ _, aK _ _⟩
theorem DZ (sp : Option Addr) (n cap : Nat) (b : List Int) (w : World) (hs : Src w w.heap.size sp n cap b) (hk : KayIn w) (hk0 : 1 < w.heap.size) (hbd : n ≤ 1099511627776) :
 Calls Tryz.prog 70 #[.slice sp n cap] w (EC w b) := by
 have HK := zh hk; clear hk
 have HS := zh hs; clear hs
 have HN := zh (NewZ.new w)
 go_enter Tryz.func70, Tryz.ntmps70
 go_wp2_with fail
 generalize hw0 : World.alloc w _ = w0
 have hn : NewZ w w0 := by rw [← hw0]; exact HN.out
 clear hw0 HN
 have hb1 := aB w0 (.cells #[.slice sp n cap] 22)
 have hs1 := aK w0 (.cells #[.slice sp n cap] 22)
 have hg1 := heap_alloc_new w0 (.cells #[.slice sp n cap] 22)
 have hs0 := hn.s
 generalize World.alloc w0 _ = w1 at *
 have hz1 := hn.z.below hb1 hn.z.lt
 have hbe1 := hn.b.trans (hb1.mono hn.b.size)
 have hp : PartsIn w1 w1.heap.size (some ⟨w.heap.size + 1, 0, none⟩) 1 [⟨sp, n, cap, b⟩] := by
  refine kX (ps := [⟨sp, n, cap, b⟩]) ?_ (by omega) ?_
  ·rw [← hs0]; exact hg1
  ·intro q hq
   rw [List.mem_singleton.1 hq]
   exact (HS.out.below hbe1 (Nat.le_refl _)).more (by omega)
 have hc : cat [⟨sp, n, cap, b⟩] = b := by simp [cat]
 refine (AZ _ 1 1 [⟨sp, n, cap, b⟩] w1 hp (HK.out.below hbe1 hk0) (by omega) (by rw [hc, HS.out.len]; exact hbd) (by omega)).mono ?_
 rintro e w2 ⟨rfl, hb2⟩
 rw [hc]
 clear hb1 hs1 hg1 hn hs0
 have hz2 := hz1.below hb2 hz1.lt
 have hbe2 := hbe1.trans (hb2.mono hbe1.size)
 clear hp hc hz1 hb2 hbe1
 have H2 := zh hz2; clear hz2
 go_wp2_with (refine wpList_store_row rfl 43 _ _ rfl w.heap.size _ rfl rfl 43 _ H2.out (bP _) (by rw [bY]; rfl) (cZ _) ?_)
 exact bodyPost_ret (results_cell_row (P := Tryz.prog) rfl _ _ w.heap.size 43 _ (0, 0) _ rfl (setRow_heap _ _ _ _ _ _ H2.out) Tryz.underlying43 rfl (bP _)) rfl ⟨rfl, below_setRow hbe2 (by omega) _⟩
theorem Tryz.info30h : (Tryz.prog.info? 54).map (·.size) = some 16 := by kernel_rfl
def hf (l : List Int) : Array Value := (((aT (sha l).list).take 16).map (Value.int .u8)).toArray
def MF (w : World) (l : List Int) (e : Ending) (w' : World) : Prop := e = .returned (.agg (hf l)) ∧ Below w.heap.size w w'
theorem tO (L : List Int) (i : Nat) (h : i < L.length) (w : World) : (part 5 (L.map (Value.int .u8)).toArray (i * 1)).run Tryz.prog w = .ok (.int .u8 (L.getD i 0)) w := by
 have hu : (underlying 5).run Tryz.prog w = .ok (.int .u8) w := run_underlying Tryz.underlying5 w
 have hg := fZ L (Value.int .u8) i 0 h
 simp [part, isAgg, hu, hg]
theorem LP (d : Nat) (a b : Int) (w : World) : (Op.equalIn (d + 1) 5 (.int .u8 a) (.int .u8 b)).run Tryz.prog w = .ok (a == b) w := by
 simp [Op.equalIn, run_underlying Tryz.underlying5]
theorem yB (d : Nat) (X Y : List Int) : ∀ (is : List Nat) (w : World), (∀ i ∈ is, i < X.length ∧ i < Y.length) →
 (Op.eqItems (d + 1) 5 1 (X.map (Value.int .u8)).toArray (Y.map (Value.int .u8)).toArray is).run Tryz.prog w = .ok (is.all fun i => X.getD i 0 == Y.getD i 0) w
 | [], w, _ => by simp [Op.eqItems]
 | i :: is, w, h => by
   have hi := h i (by simp)
   have ih := yB d X Y is w (fun j hj => h j (by simp [hj]))
   simp only [Op.eqItems, Sem.run_bind, tO X i hi.1, tO Y i hi.2, LP, Result.andThen_ok]
   cases hx : (X.getD i 0 == Y.getD i 0)
   ·rw [List.all_cons, hx]; simp
   ·rw [List.all_cons, hx]; simpa using ih
theorem uS (X Y : List Int) (h : X.length = Y.length) : ((List.range X.length).all fun i => X.getD i 0 == Y.getD i 0) = decide (X = Y) := by
 by_cases e : X = Y
 ·subst e; simp
 ·simp only [e, decide_false]
  rw [Bool.eq_false_iff]
  intro ha
  refine e (List.ext_getElem h fun i h1 h2 => ?_)
  have := List.all_eq_true.1 ha i (by simpa using h1)
  simpa [List.getD_eq_getElem?_getD, List.getElem?_eq_getElem h1, List.getElem?_eq_getElem h2] using this
theorem eE {P : Program} {w : World} {ops : Array Oper} {rest : List Oper} {o : Oper} {a : Act} {Q : Exit → Act → World → Prop} (hgd : o.guard = none) (s x : Operand) (t e : TypeId)
 (ho : o.op = .call { callee := .builtin .append, args := #[s, x], argTypes := #[t, t] }) (ht : P.underlying t = some (.slice e)) (hi : (P.info? e).map (fun i => (i.zero, i.size, i.bytes)) = some (some (.int .u8 0), 1, 1))
 (base : Nat) (v : Value) (xs : List Int) (hs : a.eval s = v) (hown : w.ownsRow base e 1 v xs.length (xs.map (Value.int .u8)))
 (sp : Option Addr) (c B : Nat) (b : List Int) (hx : a.eval x = .slice sp b.length c) (hsrc : Src w B sp b.length c b) (hnil : sp = none → c = 0)
 (hlen : xs.length + b.length ≤ 1099511627776) (hbase : base ≤ w.heap.size)
 (h : ∀ v' w', Hid (w'.ownsRow base e 1 v' (xs ++ b).length ((xs ++ b).map (Value.int .u8))) → w.grownBy w' v.ownBlock → (v' = .slice none 0 0 ↔ v = .slice none 0 0 ∧ b.length = 0) → wpList P ops Q rest (a.put o.dst v') w') : wpList P ops Q (o :: rest) a w := by
 obtain ⟨i0, hi0, hz0, hz1, hz2⟩ := info_parts hi
 cases sp with
 | none =>
   have hb : b.length = 0 := by
    by_cases h0 : 0 < b.length
    ·obtain ⟨_, _, e, _⟩ := hsrc.cells h0; cases e
    ·omega
   have hbn : b = [] := List.eq_nil_of_length_eq_zero hb
   subst hbn
   rw [hnil rfl] at hx
   refine wpList_append_own_none hgd s x t ho base e i0 1 ht hi0 v xs.length _ hs hown hx ?_
   exact h v w (by show World.ownsRow _ _ _ _ _ _ _; simpa using hown) (World.grownBy.refl _ _) (by simp)
 | some ad =>
   refine wpList_append_own w hgd s x t ho base e i0 (.int .u8 0) 1 1 ht hi0 hz0 hz1 hz2 rfl (by decide) v xs.length _ hs hown ad b.length c (b.map (Value.int .u8)) hx (by simp) ?_ (gG _ _) (by unfold maxLen; omega) (by omega) hbase ?_
   ·intro j u hj
    have hjb : j < b.length := by have := (List.getElem?_eq_some_iff.1 hj).1; simpa using this
    obtain ⟨bb, off, ead, _, _, hc⟩ := hsrc.cells (by omega)
    injection ead with ead; subst ead
    rw [fZ _ _ _ 0 hjb] at hj
    injection hj with hj
    rw [Addr.add_mid, hc j hjb, hj]
   ·intro v' w' h1 h2 h3
    exact h v' w' (by show World.ownsRow _ _ _ _ _ _ _; rw [List.length_append, List.map_append]; exact h1) h2 h3
theorem gD {w : World} {base e : Nat} {v : Value} {xs : List Int} (h : w.ownsRow base e 1 v xs.length (xs.map (Value.int .u8))) (hx : Byt xs) : ∃ sp cap, v = .slice sp xs.length cap ∧ Src w w.heap.size sp xs.length cap xs ∧ (sp = none → cap = 0) := by
 obtain ⟨_, h | ⟨g, cap, cur, rfl, _, hg, hle, _, hsz, htk⟩⟩ := h
 ·obtain ⟨rfl, h0⟩ := h
  exact ⟨none, 0, by rw [h0], ⟨rfl, hx, fun hn => by omega⟩, fun _ => rfl⟩
 ·refine ⟨_, cap, rfl, ⟨rfl, hx, fun hn => ⟨g, 0, rfl, (Array.getElem?_eq_some_iff.1 hg).1, hle, fun j hj => ?_⟩⟩, fun hh => by cases hh⟩
  rw [Nat.zero_add, cell_of_row w g j cur e _ hg]
  have h1 : (cur.toList.take (xs.length * 1))[j]? = some (.int .u8 (xs.getD j 0)) := by rw [htk]; exact fZ _ _ _ 0 hj
  rw [List.getElem?_take, if_pos (by omega)] at h1
  simpa using h1
theorem Tryz.info5a : (Tryz.prog.info? 5).map (fun i => (i.zero, i.size, i.bytes)) = some (some (.int .u8 0), 1, 1) := by kernel_rfl
end Go.Proofs.YtcligodahogpkaaGreatDoor
