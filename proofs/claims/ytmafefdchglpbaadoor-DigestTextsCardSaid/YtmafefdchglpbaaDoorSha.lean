/-
  Plain mathematics, without conditions: SHA-256 on lists of numbers, as this claim's proofs use it (no program is named here).
-/
import GoSem.Claim
import Derived.WalkKit
namespace Go.Proofs.YtmafefdchglpbaaDoor
open Go

/-- a word turned to the right by n, where a is 2^n and b is 2^(32-n) -/
def rot (a b x : Int) : Int := bits .or .u32 (x / a) (x * b % 4294967296)
def xr (a b : Int) : Int := bits .xor .u32 a b
def an (a b : Int) : Int := bits .and .u32 a b
def ad (a b : Int) : Int := (a + b) % 4294967296
def chs (x y z : Int) : Int := xr (an x y) (an (xr IntKind.u32.max x) z)
def mjr (x y z : Int) : Int := xr (xr (an x y) (an x z)) (an y z)
def big0 (x : Int) : Int := xr (xr (rot 4 1073741824 x) (rot 8192 524288 x)) (rot 4194304 1024 x)
def big1 (x : Int) : Int := xr (xr (rot 64 67108864 x) (rot 2048 2097152 x)) (rot 33554432 128 x)
def sm0 (x : Int) : Int := xr (xr (rot 128 33554432 x) (rot 262144 16384 x)) (x / 8)
def sm1 (x : Int) : Int := xr (xr (rot 131072 32768 x) (rot 524288 8192 x)) (x / 1024)

/-- the eight words of the state -/
structure St where
  a : Int
  b : Int
  c : Int
  d : Int
  e : Int
  f : Int
  g : Int
  h : Int

def St.list (s : St) : List Int := [s.a, s.b, s.c, s.d, s.e, s.f, s.g, s.h]
theorem St.list_length (s : St) : s.list.length = 8 := rfl

def tOne (k w : Int) (s : St) : Int := ad (ad (ad (ad s.h (big1 s.e)) (chs s.e s.f s.g)) k) w
def tTwo (s : St) : Int := ad (big0 s.a) (mjr s.a s.b s.c)
/-- one round -/
def rnd (k w : Int) (s : St) : St := ⟨ad (tOne k w s) (tTwo s), s.a, s.b, s.c, ad s.d (tOne k w s), s.e, s.f, s.g⟩

/-- the round constants -/
def kay : List Int := [1116352408, 1899447441, 3049323471, 3921009573, 961987163, 1508970993, 2453635748, 2870763221, 3624381080, 310598401, 607225278, 1426881987, 1925078388, 2162078206, 2614888103, 3248222580, 3835390401, 4022224774, 264347078, 604807628, 770255983, 1249150122, 1555081692, 1996064986, 2554220882, 2821834349, 2952996808, 3210313671, 3336571891, 3584528711, 113926993, 338241895, 666307205, 773529912, 1294757372, 1396182291, 1695183700, 1986661051, 2177026350, 2456956037, 2730485921, 2820302411, 3259730800, 3345764771, 3516065817, 3600352804, 4094571909, 275423344, 430227734, 506948616, 659060556, 883997877, 958139571, 1322822218, 1537002063, 1747873779, 1955562222, 2024104815, 2227730452, 2361852424, 2428436474, 2756734187, 3204031479, 3329325298]
theorem ad3 (a b c : Int) : ad (ad a b) c = (a + b + c) % 4294967296 := by simp [ad]
theorem kay_length : kay.length = 64 := rfl

/-- the state behind n rounds with the words W -/
def rnds (W : List Int) (s : St) : Nat → St
  | 0 => s
  | n + 1 => rnd (kay.getD n 0) (W.getD n 0) (rnds W s n)

/-- the word i of the message's block p, whose elements are bytes -/
def wd (p : List Int) (i : Nat) : Int :=
  bits .or .u32 (bits .or .u32 (bits .or .u32 (p.getD (4 * i) 0 * 16777216) (p.getD (4 * i + 1) 0 * 65536)) (p.getD (4 * i + 2) 0 * 256)) (p.getD (4 * i + 3) 0)
def msg (p : List Int) (n : Nat) : List Int := (List.range n).map (wd p)
theorem msg_length (p : List Int) (n : Nat) : (msg p n).length = n := by simp [msg]
theorem msg_succ (p : List Int) (n : Nat) : msg p (n + 1) = msg p n ++ [wd p n] := by simp [msg, List.range_succ]

/-- the next word of the schedule, l has n + 16 words -/
def wnext (l : List Int) (n : Nat) : Int := ad (ad (ad (l.getD n 0) (sm0 (l.getD (n + 1) 0))) (l.getD (n + 9) 0)) (sm1 (l.getD (n + 14) 0))
def sched (m : List Int) : Nat → List Int
  | 0 => m
  | n + 1 => sched m n ++ [wnext (sched m n) n]
theorem sched_length (m : List Int) (n : Nat) : (sched m n).length = m.length + n := by
  induction n with
  | zero => rfl
  | succ n ih => simp [sched, ih]; omega

/-- one block: the state h and the 64 bytes p -/
def words (p : List Int) : List Int := sched (msg p 16) 48
theorem words_length (p : List Int) : (words p).length = 64 := by simp [words, sched_length, msg_length]
def comp (h : St) (p : List Int) : St :=
  let s := rnds (words p) h 64
  ⟨ad h.a s.a, ad h.b s.b, ad h.c s.c, ad h.d s.d, ad h.e s.e, ad h.f s.f, ad h.g s.g, ad h.h s.h⟩

/-- the state at the start -/
def iv : St := ⟨1779033703, 3144134277, 1013904242, 2773480762, 1359893119, 2600822924, 528734635, 1541459225⟩

/-- n blocks -/
def blks : Nat → St → List Int → St
  | 0, s, _ => s
  | n + 1, s, p => blks n (comp s (p.take 64)) (p.drop 64)

/-- a row of n words of which the first are l: the rest is 0 -/
def fillTo (n : Nat) (l : List Int) : List Int := l ++ List.replicate (n - l.length) 0
theorem fillTo_length (n : Nat) (l : List Int) (h : l.length ≤ n) : (fillTo n l).length = n := by simp [fillTo]; omega
theorem fillTo_full (n : Nat) (l : List Int) (h : l.length = n) : fillTo n l = l := by simp [fillTo, h]
theorem fillTo_getD (n : Nat) (l : List Int) (i : Nat) (h : i < l.length) : (fillTo n l).getD i 0 = l.getD i 0 := by
  simp [fillTo, List.getD_eq_getElem?_getD, List.getElem?_append_left h]
theorem fillTo_set (n : Nat) (l : List Int) (v : Int) (h : l.length < n) : (fillTo n l).set l.length v = fillTo n (l ++ [v]) := by
  unfold fillTo
  rw [List.set_append_right _ _ (Nat.le_refl _)]
  obtain ⟨m, hm⟩ : ∃ m, n - l.length = m + 1 := ⟨n - l.length - 1, by omega⟩
  have h2 : n - (l ++ [v]).length = m := by simp; omega
  rw [hm, h2, Nat.sub_self, List.replicate_succ, List.set_cons_zero]
  simp

end Go.Proofs.YtmafefdchglpbaaDoor
