/-
  Plain mathematics, without conditions beyond those of each lemma: decimal numbers and their texts (no program is named here but for its name space).
-/
import Derived.Test.YtecllfbadciaoaaDoorZip
import Derived.Lib.ItoaMem
import Derived.Test.YtecllfbadciaoaaDoorQ5
import Derived.Shelf.Strconv.Itoa4
import Derived.Lib.AppendIntMem
import Derived.BigRegion
import Derived.Deep.RegionLaw
set_option maxRecDepth 100000
set_option maxHeartbeats 8000000
namespace Go.Proofs.YtecllfbadciaoaaDoor
open Go
theorem dec_step (u : Nat) (h : ¬ u < 10) : Lib.decDigits u = Lib.decDigits (u / 10) ++ [UInt8.ofNat (48 + u % 10)] := by rw [Lib.decDigits, dif_neg h]
theorem ofNat_toNat8 (k : Nat) (h : k < 256) : (UInt8.ofNat k).toNat = k := by simp; omega
end Go.Proofs.YtecllfbadciaoaaDoor
namespace Go.Proofs.YtecllfbadciaoaaDoor
open Go.RowKit
end Go.Proofs.YtecllfbadciaoaaDoor
namespace Go.Proofs
open Go.Shelf
def Tryd.lays173_ren : Go.Shelf.Ren := ⟨fun | 173 => 31 | 246 => 50 | 283 => 68 | 284 => 69 | 285 => 70 | 286 => 71 | 129 => 79 | 317 => 78 | 318 => 80 | 319 => 81 | 320 => 82 | 337 => 90 | 338 => 91 | n => n, fun | 2 => 2 | 3 => 3 | 9 => 9 | 4 => 4 | 171 => 89 | 0 => 0 | 53 => 65 | 37 => 30 | 5 => 5 | 173 => 92 | 212 => 100 | 51 => 101 | 20 => 20 | 213 => 102 | 46 => 80 | 232 => 43 | 233 => 112 | n => n, fun | 17 => 0 | 18 => 2 | 19 => 3 | n => n⟩
theorem Tryd.lays173 : Go.Proofs.LaysM.n173 Tryd.prog Tryd.lays173_ren := {
 mixed := by kernel_rfl
 f129 := Tryd.func79.trans (congrArg some (by kernel_rfl))
 f173 := Tryd.func31.trans (congrArg some (by kernel_rfl))
 f246 := Tryd.func50.trans (congrArg some (by kernel_rfl))
 f283 := Tryd.func68.trans (congrArg some (by kernel_rfl))
 f284 := Tryd.func69.trans (congrArg some (by kernel_rfl))
 f285 := Tryd.func70.trans (congrArg some (by kernel_rfl))
 f286 := Tryd.func71.trans (congrArg some (by kernel_rfl))
 f317 := Tryd.func78.trans (congrArg some (by kernel_rfl))
 f318 := Tryd.func80.trans (congrArg some (by kernel_rfl))
 f319 := Tryd.func81.trans (congrArg some (by kernel_rfl))
 f320 := Tryd.func82.trans (congrArg some (by kernel_rfl))
 f337 := Tryd.func90.trans (congrArg some (by kernel_rfl))
 f338 := Tryd.func91.trans (congrArg some (by kernel_rfl))
 t0 := Tryd.underlying0
 a0 := Tryd.isAgg0
 z0 := Tryd.sizeOf0
 v0 := Tryd.zeroValue0
 t2 := Tryd.underlying2
 a2 := Tryd.isAgg2
 z2 := Tryd.sizeOf2
 v2 := Tryd.zeroValue2
 t3 := Tryd.underlying3
 a3 := Tryd.isAgg3
 z3 := Tryd.sizeOf3
 v3 := Tryd.zeroValue3
 t4 := Tryd.underlying4
 a4 := Tryd.isAgg4
 z4 := Tryd.sizeOf4
 v4 := Tryd.zeroValue4
 t5 := Tryd.underlying5
 a5 := Tryd.isAgg5
 z5 := Tryd.sizeOf5
 v5 := Tryd.zeroValue5
 t9 := Tryd.underlying9
 a9 := Tryd.isAgg9
 z9 := Tryd.sizeOf9
 v9 := Tryd.zeroValue9
 t20 := Tryd.underlying20
 a20 := Tryd.isAgg20
 z20 := Tryd.sizeOf20
 v20 := Tryd.zeroValue20
 t37 := Tryd.underlying30
 a37 := Tryd.isAgg30
 z37 := Tryd.sizeOf30
 v37 := Tryd.zeroValue30
 t46 := Tryd.underlying80
 a46 := Tryd.isAgg80
 z46 := Tryd.sizeOf80
 v46 := Tryd.zeroValue80
 t51 := Tryd.underlying101
 a51 := Tryd.isAgg101
 z51 := Tryd.sizeOf101
 v51 := Tryd.zeroValue101
 t53 := Tryd.underlying65
 a53 := Tryd.isAgg65
 z53 := Tryd.sizeOf65
 v53 := Tryd.zeroValue65
 t171 := Tryd.underlying89
 a171 := Tryd.isAgg89
 z171 := Tryd.sizeOf89
 v171 := Tryd.zeroValue89
 t173 := Tryd.underlying92
 a173 := Tryd.isAgg92
 z173 := Tryd.sizeOf92
 v173 := Tryd.zeroValue92
 t212 := Tryd.underlying100
 a212 := Tryd.isAgg100
 z212 := Tryd.sizeOf100
 v212 := Tryd.zeroValue100
 t213 := Tryd.underlying102
 a213 := Tryd.isAgg102
 z213 := Tryd.sizeOf102
 t232 := Tryd.underlying43
 a232 := Tryd.isAgg43
 z232 := Tryd.sizeOf43
 v232 := Tryd.zeroValue43
 t233 := Tryd.underlying112
 a233 := Tryd.isAgg112
 z233 := Tryd.sizeOf112
 v233 := Tryd.zeroValue112
 g17 := by kernel_rfl
 g18 := by kernel_rfl
 g19 := by kernel_rfl
 i0 := by kernel_rfl
 i2 := by kernel_rfl
 i3 := by kernel_rfl
 i4 := by kernel_rfl
 i5 := by kernel_rfl
 i9 := by kernel_rfl
 i20 := by kernel_rfl
 i37 := by kernel_rfl
 i46 := by kernel_rfl
 i51 := by kernel_rfl
 i53 := by kernel_rfl
 i171 := by kernel_rfl
 i173 := by kernel_rfl
 i212 := by kernel_rfl
 i232 := by kernel_rfl
 i233 := by kernel_rfl
 m17 := by kernel_rfl
 m18 := by kernel_rfl
 m19 := by kernel_rfl }
end Go.Proofs
namespace Go.Proofs.YtecllfbadciaoaaDoor
open Go.RowKit
theorem FormatInt_any (n : Int) (h0 : -9223372036854775808 ≤ n) (h1 : n ≤ 9223372036854775807) (w : World) (ht : Lib.TabIs Tryd.prog w "internal/strconv.uint64pow10" .u64 Lib.pow10Tab) :
 Calls Tryd.prog 31 #[.int .i64 n, .int .i64 10] w fun e w' => e = .returned (.string ⟨(Lib.itoa n).toArray⟩) ∧ Below w.heap.size w w' :=
 (Any.strconv_FormatInt_10 Tryd.lays173 n h0 h1 w ht).mono fun e w' ⟨he, k, os, hw⟩ => ⟨he, by rw [hw]; exact Lib.below_grow _ _ (Nat.le_refl _) _ _⟩
theorem Number_any (n : Int) (h0 : -9223372036854775808 ≤ n) (h1 : n ≤ 9223372036854775807) (w : World) (ht : Lib.TabIs Tryd.prog w "internal/strconv.uint64pow10" .u64 Lib.pow10Tab) :
 Calls Tryd.prog 14 #[.int .i64 n] w fun e w' => e = .returned (.string ⟨(Lib.itoa n).toArray⟩) ∧ Below w.heap.size w w' := by
 have HC := zh (FormatInt_any n h0 h1 w ht)
 clear h0 h1 ht
 go_enter Tryd.func14, Tryd.ntmps14
 go_wp2_with fail
 refine HC.out.mono ?_
 rintro e w1 ⟨rfl, b1⟩
 go_wp2_with fail
 go_ret
 exact ⟨rfl, b1⟩
end Go.Proofs.YtecllfbadciaoaaDoor
namespace Go.Proofs.YtecllfbadciaoaaDoor
open Go
def rot (a b x : Int) : Int := bits .or .u32 (x / a) (x * b % 4294967296)
def xr (a b : Int) : Int := bits .xor .u32 a b
def an (a b : Int) : Int := bits .and .u32 a b
def ad (a b : Int) : Int := (a + b) % 4294967296
def chs (x y z : Int) : Int := xr (an x y) (an (xr IntKind.u32.max x) z)
def mjr (x y z : Int) : Int := xr (xr (an x y) (an x z)) (an y z)
def big0 (x : Int) : Int := xr (xr (rot 4 1073741824 x) (rot 8192 524288 x)) (rot 4194304 1024 x)
def big1 (x : Int) : Int := xr (xr (rot 64 67108864 x) (rot 2048 2097152 x)) (rot 33554432 128 x)
def sm0 (x : Int) : Int := xr (xr (rot 128 33554432 x) (rot 262144 16384 x)) (x / 8)
def sm1 (x : Int) : Int := xr (xr (rot 131072 32768 x) (rot 524288 8192 x)) (x / 1024)
structure St where
 a : Int
 b : Int
 c : Int
 d : Int
 e : Int
 f : Int
 g : Int
 h : Int
def St.list (s : St) : List Int := [s.a, s.b, s.c, s.d, s.e, s.f, s.g, s.h]
def tOne (k w : Int) (s : St) : Int := ad (ad (ad (ad s.h (big1 s.e)) (chs s.e s.f s.g)) k) w
def tTwo (s : St) : Int := ad (big0 s.a) (mjr s.a s.b s.c)
def rnd (k w : Int) (s : St) : St := ⟨ad (tOne k w s) (tTwo s), s.a, s.b, s.c, ad s.d (tOne k w s), s.e, s.f, s.g⟩
def kay : List Int := [1116352408, 1899447441, 3049323471, 3921009573, 961987163, 1508970993, 2453635748, 2870763221, 3624381080, 310598401, 607225278, 1426881987, 1925078388, 2162078206, 2614888103, 3248222580, 3835390401, 4022224774, 264347078, 604807628, 770255983, 1249150122, 1555081692, 1996064986, 2554220882, 2821834349, 2952996808, 3210313671, 3336571891, 3584528711, 113926993, 338241895, 666307205, 773529912, 1294757372, 1396182291, 1695183700, 1986661051, 2177026350, 2456956037, 2730485921, 2820302411, 3259730800, 3345764771, 3516065817, 3600352804, 4094571909, 275423344, 430227734, 506948616, 659060556, 883997877, 958139571, 1322822218, 1537002063, 1747873779, 1955562222, 2024104815, 2227730452, 2361852424, 2428436474, 2756734187, 3204031479, 3329325298]
def rnds (W : List Int) (s : St) : Nat → St
 | 0 => s
 | n + 1 => rnd (kay.getD n 0) (W.getD n 0) (rnds W s n)
def wd (p : List Int) (i : Nat) : Int :=
 bits .or .u32 (bits .or .u32 (bits .or .u32 (p.getD (4 * i) 0 * 16777216) (p.getD (4 * i + 1) 0 * 65536)) (p.getD (4 * i + 2) 0 * 256)) (p.getD (4 * i + 3) 0)
def msg (p : List Int) (n : Nat) : List Int := (List.range n).map (wd p)
def wnext (l : List Int) (n : Nat) : Int := ad (ad (ad (l.getD n 0) (sm0 (l.getD (n + 1) 0))) (l.getD (n + 9) 0)) (sm1 (l.getD (n + 14) 0))
def sched (m : List Int) : Nat → List Int
 | 0 => m
 | n + 1 => sched m n ++ [wnext (sched m n) n]
def words (p : List Int) : List Int := sched (msg p 16) 48
def comp (h : St) (p : List Int) : St :=
 let s := rnds (words p) h 64
 ⟨ad h.a s.a, ad h.b s.b, ad h.c s.c, ad h.d s.d, ad h.e s.e, ad h.f s.f, ad h.g s.g, ad h.h s.h⟩
def iv : St := ⟨1779033703, 3144134277, 1013904242, 2773480762, 1359893119, 2600822924, 528734635, 1541459225⟩
def blks : Nat → St → List Int → St
 | 0, s, _ => s
 | n + 1, s, p => blks n (comp s (p.take 64)) (p.drop 64)
def fillTo (n : Nat) (l : List Int) : List Int := l ++ List.replicate (n - l.length) 0
end Go.Proofs.YtecllfbadciaoaaDoor
namespace Go.Proofs.YtecllfbadciaoaaDoor
open Go.RowKit
theorem heap_cell {w : World} {g j : Nat} {L : List Value} {t : TypeId} {fr : Nat × Nat} {v : Value} (hg : w.heap[g]? = some (.cells L.toArray t fr)) (hv : L[j]? = some v) : w.cell? ⟨g, j, none⟩ = some v := by
 rw [cell_of_row w g j _ t fr hg]; simpa using hv
theorem getD_map {α β : Type} (l : List α) (f : α → β) (i : Nat) (d : α) (h : i < l.length) : (l.map f)[i]? = some (f (l.getD i d)) := by
 simp [List.getD_eq_getElem?_getD, List.getElem?_eq_getElem h]
def RowIn (w : World) (b : Nat) (t : TypeId) (k : IntKind) (L : List Int) : Prop := w.heap[b]? = some (.cells (L.map (Value.int k)).toArray t (0, 0))
theorem RowIn.get {w : World} {b : Nat} {t : TypeId} {k : IntKind} {L : List Int} (h : RowIn w b t k L) (i : Nat) (hi : i < L.length) : w.cell? ⟨b, i, none⟩ = some (.int k (L.getD i 0)) :=
 heap_cell h (getD_map _ _ _ _ hi)
theorem RowIn.put {w : World} {b : Nat} {t : TypeId} {k : IntKind} {L : List Int} (h : RowIn w b t k L) (i : Nat) (v : Int) : RowIn (w.setCell ⟨b, i, none⟩ (.int k v)) b t k (L.set i v) := by
 unfold RowIn; rw [heap_setCell_same _ _ _ _ _ _ h]; simp [List.map_set]
theorem RowIn.put_other {w : World} {b : Nat} {t : TypeId} {k : IntKind} {L : List Int} (h : RowIn w b t k L) (a : Addr) (v : Value) (ha : b ≠ a.block) : RowIn (w.setCell a v) b t k L := by
 unfold RowIn; rw [heap_setCell_other _ _ _ _ ha]; exact h
theorem RowIn.drew {w : World} {b : Nat} {t : TypeId} {k : IntKind} {L : List Int} (h : RowIn w b t k L) : RowIn w.drew b t k L := h
theorem RowIn.lt {w : World} {b : Nat} {t : TypeId} {k : IntKind} {L : List Int} (h : RowIn w b t k L) : b < w.heap.size := by
 unfold RowIn at h; exact (Array.getElem?_eq_some_iff.1 h).1
theorem RowIn.alloc {w : World} {b : Nat} {t : TypeId} {k : IntKind} {L : List Int} (h : RowIn w b t k L) (o : Obj) : RowIn (w.alloc o) b t k L := by
 exact (heap_alloc_old w o h.lt).trans h
theorem RowIn.below {w w' : World} {b B : Nat} {t : TypeId} {k : IntKind} {L : List Int} (h : RowIn w b t k L) (hb : Below B w w') (hlt : b < B) : RowIn w' b t k L := by
 unfold RowIn; rw [hb.block b hlt]; exact h
theorem RowIn.setRow {w : World} {b : Nat} {t : TypeId} {k : IntKind} {L : List Int} (h : RowIn w b t k L) (M : List Int) : RowIn (w.setRow b (M.map (Value.int k)).toArray) b t k M := setRow_heap _ _ _ _ _ _ h
def hcells (st : St) (rest : List Int) (used : Nat) (len : Int) : List Value :=
 st.list.map (Value.int .u32) ++ (rest.map (Value.int .u8) ++ [.int .i64 used, .int .u64 len])
def wb (x : Int) : List Int := [(x / 16777216) % 256, (x / 65536) % 256, (x / 256) % 256, x % 256]
def dbytes : List Int → List Int
 | [] => []
 | x :: r => wb x ++ dbytes r
theorem take_snoc0 (l : List Int) (k : Nat) (h : k < l.length) : l.take (k + 1) = l.take k ++ [l.getD k 0] := by
 rw [List.take_succ_eq_append_getElem h]; simp [List.getD_eq_getElem?_getD, List.getElem?_eq_getElem h]
structure DigAt (B : Nat) (w wr : World) (L : List Int) : Prop where
 row : RowIn wr (B + 1) 44 .u8 L
 res : RowIn wr B 44 .u8 (List.replicate 32 0)
 bel : Below B w wr
 size : wr.heap.size = B + 2
theorem DigAt.start (w : World) : DigAt w.heap.size w ((w.alloc (.cells (Array.replicate 32 (Value.int .u8 0)) 44)).alloc (.cells (Array.replicate 32 (Value.int .u8 0)) 44)) (fillTo 32 []) :=
 ⟨heap_alloc2_new _ _ _, heap_alloc2_old _ _ _, ((Below.refl _ _).alloc (Nat.le_refl _) _).alloc (by simp) _, by simp⟩
theorem DigAt.put {B : Nat} {w wr : World} {L : List Int} (h : DigAt B w wr L) (i : Nat) (v : Int) : DigAt B w (wr.setCell ⟨B + 1, i, none⟩ (.int .u8 v)) (L.set i v) :=
 ⟨h.row.put i v, h.res.put_other _ _ (by simp), h.bel.setCell (by simp) _, by simp [World.setCell, h.size]⟩
end Go.Proofs.YtecllfbadciaoaaDoor
namespace Go.Proofs.YtecllfbadciaoaaDoor
open Go
def Byt (l : List Int) : Prop := ∀ x ∈ l, 0 ≤ x ∧ x < 256
theorem Byt.at_ {l : List Int} (h : Byt l) (j : Nat) : 0 ≤ l.getD j 0 ∧ l.getD j 0 < 256 := by
 rw [List.getD_eq_getElem?_getD]
 by_cases hj : j < l.length
 ·rw [List.getElem?_eq_getElem hj]; exact h _ (List.getElem_mem hj)
 ·rw [List.getElem?_eq_none (by omega)]; simp
theorem Byt.take {l : List Int} (h : Byt l) (k : Nat) : Byt (l.take k) := fun x hx => h x (List.mem_of_mem_take hx)
theorem Byt.drop {l : List Int} (h : Byt l) (k : Nat) : Byt (l.drop k) := fun x hx => h x (List.mem_of_mem_drop hx)
theorem Byt.append {a b : List Int} (ha : Byt a) (hb : Byt b) : Byt (a ++ b) := fun x hx => by
 rcases List.mem_append.1 hx with h | h
 ·exact ha x h
 ·exact hb x h
theorem Byt.splice {a b : List Int} (ha : Byt a) (hb : Byt b) (k : Nat) : Byt (splice a k b) := (ha.take k).append (hb.append (ha.drop _))
theorem Byt.set {l : List Int} (h : Byt l) (i : Nat) (v : Int) (h0 : 0 ≤ v) (h1 : v < 256) : Byt (l.set i v) := fun x hx => by
 rcases List.mem_or_eq_of_mem_set hx with h' | h'
 ·exact h x h'
 ·subst h'; exact ⟨h0, h1⟩
theorem drop_mid (l b : List Int) (k : Nat) : (l ++ b).drop (l.length + k) = b.drop k := by
 rw [List.drop_append, (show l.drop (l.length + k) = [] from List.drop_eq_nil_of_le (by omega)), Nat.add_sub_cancel_left, List.nil_append]
theorem blks_append (m : Nat) (s : St) (a b : List Int) (h : 64 * m ≤ a.length) : blks m s (a ++ b) = blks m s a := by
 induction m generalizing s a with
 | zero => rfl
 | succ m ih =>
   show blks m (comp s ((a ++ b).take 64)) ((a ++ b).drop 64) = blks m (comp s (a.take 64)) (a.drop 64)
   rw [List.take_append_of_le_length (by omega), List.drop_append_of_le_length (by omega), ih _ _ (by rw [List.length_drop]; omega)]
structure Has (l : List Int) (st : St) (rest : List Int) (used : Nat) (len : Int) : Prop where
 hst : st = blks (l.length / 64) iv l
 hused : used = l.length % 64
 hlen : len = l.length
 htail : rest.take used = l.drop (64 * (l.length / 64))
 hbyt : Byt rest
structure Mid (l b : List Int) (k : Nat) (st : St) : Prop where
 le : k ≤ b.length
 whole : (l.length + k) % 64 = 0
 hst : st = blks ((l.length + k) / 64) iv (l ++ b)
theorem Has.start (rest : List Int) (h : Byt rest) : Has [] iv rest 0 0 := ⟨rfl, rfl, rfl, rfl, h⟩
theorem splice_take {l : List Int} (k : Nat) (c : List Int) (h : k ≤ l.length) : (splice l k c).take (k + c.length) = l.take k ++ c := by
 unfold splice
 have hk : (l.take k).length = k := by rw [List.length_take]; omega
 rw [List.take_append, hk, Nat.add_sub_cancel_left, List.take_of_length_le (by omega), List.take_append_of_le_length (Nat.le_refl _), List.take_length]
theorem Mid.fin {l b : List Int} {k : Nat} {st : St} (h : Mid l b k st) (hk : b.length < k + 64) {rest : List Int} (_hr : rest.length = 64) (hby : Byt rest) (hbb : Byt b) :
 Has (l ++ b) st (splice rest 0 (b.drop k)) (b.length - k) ((l.length : Int) + b.length) := by
 have hw := h.whole
 have hle := h.le
 have hd : (b.drop k).length = b.length - k := List.length_drop
 have hlen : (l ++ b).length = l.length + b.length := List.length_append
 have e1 : (l.length + b.length) / 64 = (l.length + k) / 64 := by omega
 refine ⟨by rw [hlen, e1]; exact h.hst, by rw [hlen]; omega, by rw [hlen]; simp, ?_, hby.splice (hbb.drop k) 0⟩
 have hs := splice_take (l := rest) 0 (b.drop k) (by omega)
 rw [hd, Nat.zero_add, List.take_zero, List.nil_append] at hs
 rw [hs, hlen, e1]
 have e2 : 64 * ((l.length + k) / 64) = l.length + k := by omega
 rw [e2, drop_mid]
theorem Has.small {l : List Int} {st : St} {rest : List Int} {used : Nat} {len : Int} (h : Has l st rest used len) (b : List Int) (hr : rest.length = 64) (h1 : used + b.length < 64) (hbb : Byt b) :
 Has (l ++ b) st (splice rest used b) (used + b.length) (len + b.length) := by
 have hu := h.hused
 have hlen : (l ++ b).length = l.length + b.length := List.length_append
 have e1 : (l.length + b.length) / 64 = l.length / 64 := by omega
 refine ⟨by rw [hlen, e1, blks_append _ _ _ _ (by omega)]; exact h.hst, by rw [hlen]; omega, by rw [hlen, h.hlen]; simp, ?_, h.hbyt.splice hbb used⟩
 rw [splice_take _ _ (by omega), h.htail, hlen, e1, List.drop_append_of_le_length (by omega)]
end Go.Proofs.YtecllfbadciaoaaDoor
namespace Go.Proofs.YtecllfbadciaoaaDoor
open Go.RowKit
structure Src (w : World) (B : Nat) (sp : Option Addr) (n cap : Nat) (b : List Int) : Prop where
 len : b.length = n
 byt : Byt b
 cells : 0 < n → ∃ bb off, sp = some ⟨bb, off, none⟩ ∧ bb < B ∧ n ≤ cap ∧ ∀ j, j < n → w.cell? ⟨bb, off + j, none⟩ = some (.int .u8 (b.getD j 0))
theorem Src.below {w w' : World} {B B' : Nat} {sp : Option Addr} {n cap : Nat} {b : List Int} (h : Src w B sp n cap b) (hb : Below B' w w') (hB : B ≤ B') : Src w' B sp n cap b :=
 ⟨h.len, h.byt, fun hn => by
  obtain ⟨bb, off, e, hlt, hc, hcell⟩ := h.cells hn
  exact ⟨bb, off, e, hlt, hc, fun j hj => (hb.cell (p := ⟨bb, off + j, none⟩) (by show bb < B'; omega)).trans (hcell j hj)⟩⟩
theorem Src.cut {w : World} {B bb off n cap : Nat} {b : List Int} (h : Src w B (some ⟨bb, off, none⟩) n cap b) (m : Nat) (hm : m ≤ n) :
 Src w B (if cap = m then some ⟨bb, off, none⟩ else some ⟨bb, off + m, none⟩) (n - m) (cap - m) (b.drop m) := by
 refine ⟨by rw [List.length_drop, h.len], h.byt.drop m, fun hn => ?_⟩
 obtain ⟨b', o', e, hlt, hcap, hc⟩ := h.cells (by omega)
 injection e with e; injection e with e1 e2; subst e1 e2
 refine ⟨bb, off + m, by rw [if_neg (by omega)], hlt, by omega, fun j hj => ?_⟩
 have := hc (m + j) (by omega)
 rw [Nat.add_assoc, this]
 simp [List.getD_eq_getElem?_getD]
theorem RowIn.grown {w w' : World} {b g : Nat} {t : TypeId} {k : IntKind} {L : List Int} (h : RowIn w b t k L) (hg : w.grownBy w' (some g)) (hne : b ≠ g) : RowIn w' b t k L := by
 unfold RowIn; rw [hg.block b h.lt (fun e => hne (by injection e))]; exact h
end Go.Proofs.YtecllfbadciaoaaDoor
namespace Go.Proofs.YtecllfbadciaoaaDoor
open Go
def lb (m : Int) (i : Nat) : Int := m / 2 ^ (8 * i) % 256
def lenb (m : Int) : List Int := [lb m 7, lb m 6, lb m 5, lb m 4, lb m 3, lb m 2, lb m 1, lb m 0]
def pad (l : List Int) : List Int := l ++ (128 :: (List.replicate ((119 - l.length % 64) % 64) 0 ++ lenb (8 * (l.length : Int))))
def sha (l : List Int) : St := blks ((pad l).length / 64) iv (pad l)
end Go.Proofs.YtecllfbadciaoaaDoor
namespace Go.Proofs.YtecllfbadciaoaaDoor
open Go.RowKit
structure Part where
 sp : Option Addr
 n : Nat
 cap : Nat
 b : List Int
def Part.val (q : Part) : Value := .slice q.sp q.n q.cap
theorem Src.more {w : World} {B B' : Nat} {sp : Option Addr} {n cap : Nat} {b : List Int} (h : Src w B sp n cap b) (hB : B ≤ B') : Src w B' sp n cap b :=
 ⟨h.len, h.byt, fun hn => by
  obtain ⟨bb, off, e, hlt, hc, hcell⟩ := h.cells hn
  exact ⟨bb, off, e, by omega, hc, hcell⟩⟩
structure PartsIn (w : World) (B : Nat) (pa : Option Addr) (np : Nat) (ps : List Part) : Prop where
 len : ps.length = np
 cells : 0 < np → ∃ pb po, pa = some ⟨pb, po, none⟩ ∧ pb < B ∧ ∀ j (hj : j < ps.length), w.cell? ⟨pb, po + j, none⟩ = some ps[j].val
 srcs : ∀ q ∈ ps, Src w B q.sp q.n q.cap q.b
theorem PartsIn.below {w w' : World} {B B' : Nat} {pa : Option Addr} {np : Nat} {ps : List Part} (h : PartsIn w B pa np ps) (hb : Below B' w w') (hB : B ≤ B') : PartsIn w' B' pa np ps :=
 ⟨h.len, fun hn => by
  obtain ⟨pb, po, e, hlt, hc⟩ := h.cells hn
  exact ⟨pb, po, e, by omega, fun j hj => (hb.cell (p := ⟨pb, po + j, none⟩) (by show pb < B'; omega)).trans (hc j hj)⟩, fun q hq => ((h.srcs q hq).below hb hB).more hB⟩
end Go.Proofs.YtecllfbadciaoaaDoor
