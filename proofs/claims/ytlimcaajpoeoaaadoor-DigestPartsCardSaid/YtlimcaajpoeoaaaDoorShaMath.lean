/- The digest of bytes as a plain function on lists of whole numbers, over 32-bit words. No program in it. -/
import Derived.WalkKit
import Derived.Laws.BitsAllLaws
namespace Go.Proofs.YtlimcaajpoeoaaaDoor
namespace Sha
abbrev W := BitVec 32
/-- A word as the walk's whole number. -/
def u (x : W) : Int := (x.toNat : Int)
theorem u_lo (x : W) : 0 ≤ u x := by unfold u; omega
theorem u_hi (x : W) : u x < 4294967296 := by unfold u; have := x.isLt; omega
theorem of_u (x : W) : BitVec.ofInt 32 (u x) = x := by unfold u; simp
theorem u_inj {x y : W} (h : u x = u y) : x = y := by unfold u at h; exact BitVec.eq_of_toNat_eq (by omega)
theorem wrap_u (x : W) : IntKind.u32.wrap (u x) = u x := by
  rw [IntKind.wrap_u32]; have := u_lo x; have := u_hi x; omega
theorem u_add (x y : W) : IntKind.u32.wrap (u x + u y) = u (x + y) := by
  rw [IntKind.wrap_u32]; unfold u; rw [BitVec.toNat_add]; simp
theorem back (x : W) : IntKind.u32.wrap (x.toNat : Int) = u x := wrap_u x
theorem u_xor (x y : W) : bits .xor .u32 (u x) (u y) = u (x ^^^ y) := by
  show IntKind.u32.wrap ((BitVec.ofInt 32 (u x) ^^^ BitVec.ofInt 32 (u y)).toNat : Int) = _
  rw [of_u, of_u, back]
theorem u_and (x y : W) : bits .and .u32 (u x) (u y) = u (x &&& y) := by
  show IntKind.u32.wrap ((BitVec.ofInt 32 (u x) &&& BitVec.ofInt 32 (u y)).toNat : Int) = _
  rw [of_u, of_u, back]
theorem u_or (x y : W) : bits .or .u32 (u x) (u y) = u (x ||| y) := by
  show IntKind.u32.wrap ((BitVec.ofInt 32 (u x) ||| BitVec.ofInt 32 (u y)).toNat : Int) = _
  rw [of_u, of_u, back]
theorem u_not (x : W) : bits .xor .u32 IntKind.u32.max (u x) = u (~~~x) := by
  show IntKind.u32.wrap ((BitVec.ofInt 32 4294967295 ^^^ BitVec.ofInt 32 (u x)).toNat : Int) = _
  rw [of_u, back]
  congr 1
theorem u_ofInt (z : Int) (h0 : 0 ≤ z) (h1 : z < 4294967296) : u (BitVec.ofInt 32 z) = z := by
  unfold u
  rw [BitVec.toNat_ofInt]
  omega
theorem u_shl (x : W) (n : Nat) : IntKind.u32.wrap (u x * 2 ^ n) = u (x <<< n) := by
  rw [IntKind.wrap_u32]
  unfold u
  rw [BitVec.toNat_shiftLeft, Nat.shiftLeft_eq, Int.natCast_emod, Int.natCast_mul, Int.natCast_pow]
  rfl
theorem u_shr (x : W) (n : Nat) : u x / 2 ^ n = u (x >>> n) := by
  unfold u
  rw [BitVec.toNat_ushiftRight, Nat.shiftRight_eq_div_pow, Int.natCast_ediv, Int.natCast_pow]
  rfl
theorem add_u (x y : W) : (u x + u y) % 4294967296 = u (x + y) := by rw [← u_add, IntKind.wrap_u32]
def rr (x : W) (n : Nat) : W := (x >>> n) ||| (x <<< (32 - n))
theorem rot_u (x : W) (n k : Nat) (p q : Int) (hn : n + k = 32) (hp : p = 2 ^ k) (hq : q = 2 ^ n) : bits .or .u32 (u x * p % 4294967296) (u x / q) = u (rr x n) := by
  obtain rfl : k = 32 - n := by omega
  subst hp hq
  rw [u_shr, show (u x * 2 ^ (32 - n) % 4294967296) = u (x <<< (32 - n)) by rw [← u_shl, IntKind.wrap_u32], u_or, rr, BitVec.or_comm]
theorem rot_u' (x : W) (n k : Nat) (p q : Int) (hn : n + k = 32) (hp : p = 2 ^ k) (hq : q = 2 ^ n) : bits .or .u32 (u x / q) (u x * p % 4294967296) = u (rr x n) := by
  obtain rfl : k = 32 - n := by omega
  subst hp hq
  rw [u_shr, show (u x * 2 ^ (32 - n) % 4294967296) = u (x <<< (32 - n)) by rw [← u_shl, IntKind.wrap_u32], u_or, rr]
def K : List W := [1116352408, 1899447441, 3049323471, 3921009573, 961987163, 1508970993, 2453635748, 2870763221, 3624381080, 310598401, 607225278, 1426881987, 1925078388, 2162078206, 2614888103, 3248222580, 3835390401, 4022224774, 264347078, 604807628, 770255983, 1249150122, 1555081692, 1996064986, 2554220882, 2821834349, 2952996808, 3210313671, 3336571891, 3584528711, 113926993, 338241895, 666307205, 773529912, 1294757372, 1396182291, 1695183700, 1986661051, 2177026350, 2456956037, 2730485921, 2820302411, 3259730800, 3345764771, 3516065817, 3600352804, 4094571909, 275423344, 430227734, 506948616, 659060556, 883997877, 958139571, 1322822218, 1537002063, 1747873779, 1955562222, 2024104815, 2227730452, 2361852424, 2428436474, 2756734187, 3204031479, 3329325298]
structure St where
  a : W
  b : W
  c : W
  d : W
  e : W
  f : W
  g : W
  h : W
def tt (s : St) (k w : W) : W := s.h + (rr s.e 6 ^^^ rr s.e 11 ^^^ rr s.e 25) + (s.e &&& s.f ^^^ ~~~s.e &&& s.g) + k + w
def vv (s : St) : W := (rr s.a 2 ^^^ rr s.a 13 ^^^ rr s.a 22) + (s.a &&& s.b ^^^ s.a &&& s.c ^^^ s.b &&& s.c)
def step (s : St) (k w : W) : St := ⟨tt s k w + vv s, s.a, s.b, s.c, s.d + tt s k w, s.e, s.f, s.g⟩
def after (ws : List W) (s : St) : Nat → St
  | 0 => s
  | k + 1 => step (after ws s k) (K.getD k 0) (ws.getD k 0)
def plus (s t : St) : St := ⟨s.a + t.a, s.b + t.b, s.c + t.c, s.d + t.d, s.e + t.e, s.f + t.f, s.g + t.g, s.h + t.h⟩
def word (a b c d : Int) : W := ((BitVec.ofInt 32 a <<< 8 ||| BitVec.ofInt 32 b) <<< 8 ||| BitVec.ofInt 32 c) <<< 8 ||| BitVec.ofInt 32 d
/-- s0 and s1. -/
def s0 (x : W) : W := rr x 7 ^^^ rr x 18 ^^^ x >>> 3
def s1 (y : W) : W := rr y 17 ^^^ rr y 19 ^^^ y >>> 10
def next (l : List W) : W := l.getD (l.length - 16) 0 + s0 (l.getD (l.length - 15) 0) + l.getD (l.length - 7) 0 + s1 (l.getD (l.length - 2) 0)
def words (l : List Int) : Nat → List W
  | 0 => []
  | n + 1 => words l n ++ [word (l.getD (4 * n) 0) (l.getD (4 * n + 1) 0) (l.getD (4 * n + 2) 0) (l.getD (4 * n + 3) 0)]
/-- w0 to w(n+15). -/
def grow (l : List Int) : Nat → List W
  | 0 => words l 16
  | n + 1 => grow l n ++ [next (grow l n)]
def sched (l : List Int) : List W := grow l 48
def block (s : St) (l : List Int) : St := plus s (after (sched l) s 64)
/-- The state behind n blocks of l. -/
def upto (l : List Int) : Nat → St
  | 0 => ⟨0x6a09e667, 0xbb67ae85, 0x3c6ef372, 0xa54ff53a, 0x510e527f, 0x9b05688c, 0x1f83d9ab, 0x5be0cd19⟩
  | n + 1 => block (upto l n) ((l.drop (64 * n)).take 64)
def byte (x : W) (n : Nat) : Int := u (x >>> n) % 256
def wordAt (s : St) (i : Nat) : W := [s.a, s.b, s.c, s.d, s.e, s.f, s.g, s.h].getD i 0
def lay (s : St) : List Int := (List.range 32).map fun i => byte (wordAt s (i / 4)) (24 - 8 * (i % 4))
def len8 (n : Nat) : List Int := (List.range 8).map fun i => ((n * 8 / 256 ^ (7 - i) % 256 : Nat) : Int)
def nblocks (n : Nat) : Nat := (n + 72) / 64
def pad (l : List Int) : List Int := l ++ [128] ++ List.replicate (nblocks l.length * 64 - l.length - 9) 0 ++ len8 l.length
def sha (l : List Int) : List Int := lay (upto (pad l) (nblocks l.length))
example : (sha [97,98,99]).take 8 = [186, 120, 22, 191, 143, 1, 207, 234] := by decide +kernel
theorem u_shl8 (x : W) : u x * (256 : Int) % (4294967296 : Int) = u (x <<< (8 : Nat)) := by
  have := u_shl x 8
  rw [IntKind.wrap_u32] at this
  exact this
theorem u_orI (x : W) (z : Int) : bits .or .u32 (u x) z = u (x ||| BitVec.ofInt 32 z) := by
  show IntKind.u32.wrap ((BitVec.ofInt 32 (u x) ||| BitVec.ofInt 32 z).toNat : Int) = _
  rw [of_u, back]
theorem u_zero : u 0 = 0 := rfl
theorem len_words (l : List Int) : ∀ n, (words l n).length = n
  | 0 => rfl
  | n + 1 => by rw [words, List.length_append, len_words l n]; rfl
theorem len_grow (l : List Int) : ∀ n, (grow l n).length = 16 + n
  | 0 => len_words l 16
  | n + 1 => by rw [grow, List.length_append, len_grow l n]; simp; omega
theorem set_next {A : List W} {x : W} {m n : Nat} (h : A.length = n) (hm : 0 < m) : (A ++ List.replicate m 0).set n x = A ++ [x] ++ List.replicate (m - 1) 0 := by
  subst h
  obtain ⟨k, rfl⟩ : ∃ k, m = k + 1 := ⟨m - 1, by omega⟩
  rw [List.set_append_right _ _ (Nat.le_refl _), Nat.sub_self, List.replicate_succ, List.set_cons_zero]
  simp
def rowA (l : List Int) (i : Nat) : List W := words l i ++ List.replicate (64 - i) 0
def part (l : List Int) (i : Nat) : Nat → W
  | 0 => 0
  | j + 1 => part l i j <<< 8 ||| BitVec.ofInt 32 (l.getD (4 * i + j) 0)
theorem len_rowA (l : List Int) (i : Nat) (h : i ≤ 64) : (rowA l i).length = 64 := by
  rw [rowA, List.length_append, len_words, List.length_replicate]; omega
theorem rowA_zero (l : List Int) (i : Nat) (h : i < 64) : (rowA l i).set i (part l i 0) = rowA l i := by
  rw [rowA, set_next (len_words l i) (by omega), part, List.append_assoc]
  congr 1
  rw [show 64 - i = (64 - i - 1) + 1 by omega, List.replicate_succ]
  rfl
theorem part_four (l : List Int) (i : Nat) : part l i 4 = word (l.getD (4 * i) 0) (l.getD (4 * i + 1) 0) (l.getD (4 * i + 2) 0) (l.getD (4 * i + 3) 0) := by
  have e : (0 : W) <<< 8 ||| BitVec.ofInt 32 (l.getD (4 * i + 0) 0) = BitVec.ofInt 32 (l.getD (4 * i) 0) := by simp
  simp only [part, word, e]
theorem rowA_four (l : List Int) (i : Nat) (h : i < 64) : (rowA l i).set i (part l i 4) = rowA l (i + 1) := by
  rw [rowA, set_next (len_words l i) (by omega), part_four, rowA, words]
  rfl
theorem set_get (A : List W) (n : Nat) (x : W) (h : n < A.length) : (A.set n x).getD n 0 = x := by
  simp [List.getD, h]
theorem set_twice (A : List W) (n : Nat) (x y : W) : (A.set n x).set n y = A.set n y := by simp
def rowB (l : List Int) (n : Nat) : List W := grow l n ++ List.replicate (48 - n) 0
theorem len_rowB (l : List Int) (n : Nat) (h : n ≤ 48) : (rowB l n).length = 64 := by
  rw [rowB, List.length_append, len_grow, List.length_replicate]; omega
theorem rowB_start (l : List Int) : rowA l 16 = rowB l 0 := rfl
theorem rowB_end (l : List Int) : rowB l 48 = sched l := by simp [rowB, sched]
theorem rowB_at (l : List Int) (n i : Nat) (h : i < 16 + n) : (rowB l n).getD i 0 = (grow l n).getD i 0 := by
  unfold rowB
  simp only [List.getD]
  rw [List.getElem?_append_left (by rw [len_grow]; exact h)]
theorem rowB_set (l : List Int) (n : Nat) (h : n < 48) : (rowB l n).set (16 + n) (next (grow l n)) = rowB l (n + 1) := by
  rw [rowB, set_next (len_grow l n) (by omega), rowB, grow]
  rfl
theorem next_eq (l : List Int) (n : Nat) : next (grow l n) = (rowB l n).getD n 0 + s0 ((rowB l n).getD (n + 1) 0) + (rowB l n).getD (n + 9) 0 + s1 ((rowB l n).getD (n + 14) 0) := by
  rw [rowB_at l n n (by omega), rowB_at l n (n + 1) (by omega), rowB_at l n (n + 9) (by omega), rowB_at l n (n + 14) (by omega), next, len_grow]
  rw [show 16 + n - 16 = n by omega, show 16 + n - 15 = n + 1 by omega, show 16 + n - 7 = n + 9 by omega, show 16 + n - 2 = n + 14 by omega]
theorem len_sched (l : List Int) : (sched l).length = 64 := len_grow l 48
theorem len_lay (s : St) : (lay s).length = 32 := by simp [lay]
theorem lay_at (s : St) (q r : Nat) (hq : q < 8) (hr : r < 4) : (lay s).getD (4 * q + r) 0 = byte (wordAt s q) (24 - 8 * r) := by
  unfold lay
  simp only [List.getD]
  rw [List.getElem?_map, List.getElem?_range (by omega)]
  simp only [Option.map_some, Option.getD_some]
  rw [show (4 * q + r) / 4 = q by omega, show (4 * q + r) % 4 = r by omega]
/-- The first n of l, and zeros behind them. -/
def filled (l : List Int) (n m : Nat) : List Int := l.take n ++ List.replicate (m - n) 0
theorem len_filled (l : List Int) (n m : Nat) (h : n ≤ l.length) (hm : n ≤ m) : (filled l n m).length = m := by
  rw [filled, List.length_append, List.length_take, List.length_replicate]; omega
theorem filled_set (l : List Int) (n m : Nat) (h : n < l.length) (hm : n < m) : (filled l n m).set n (l.getD n 0) = filled l (n + 1) m := by
  have hl : (l.take n).length = n := by rw [List.length_take]; omega
  rw [filled, filled, List.set_append_right _ _ (by omega), hl, Nat.sub_self, show m - n = (m - (n + 1)) + 1 by omega, List.replicate_succ, List.set_cons_zero, List.take_succ_eq_append_getElem h, List.append_assoc]
  simp [List.getD, h]
theorem filled_all (l : List Int) (m : Nat) (h : l.length = m) : filled l m m = l := by
  rw [filled, List.take_of_length_le (by omega), Nat.sub_self]; simp
def pre (l : List Int) (N : Nat) : List Int := l ++ List.replicate (N - l.length) 0
theorem len_pre (l : List Int) (N : Nat) (h : l.length ≤ N) : (pre l N).length = N := by
  rw [pre, List.length_append, List.length_replicate]; omega
theorem pre_set (l : List Int) (N : Nat) (x : Int) (h : l.length < N) : (pre l N).set l.length x = pre (l ++ [x]) N := by
  rw [pre, pre, List.set_append_right _ _ (Nat.le_refl _), Nat.sub_self, show N - l.length = (N - l.length - 1) + 1 by omega, List.replicate_succ, List.set_cons_zero, List.append_assoc]
  simp
  omega
theorem nblocks_bd (n : Nat) : n + 9 ≤ nblocks n * 64 ∧ nblocks n * 64 ≤ n + 72 := by unfold nblocks; omega
def tailed (l : List Int) (N i : Nat) : List Int := l ++ [128] ++ List.replicate (N - l.length - 9) 0 ++ (List.replicate (8 - i) 0 ++ (len8 l.length).drop (8 - i))
theorem len_len8 (n : Nat) : (len8 n).length = 8 := by simp [len8]
theorem len8_at (n i : Nat) (h : i < 8) : (len8 n).getD (7 - i) 0 = ((n * 8 / 256 ^ i % 256 : Nat) : Int) := by
  unfold len8
  simp only [List.getD]
  rw [List.getElem?_map, List.getElem?_range (by omega)]
  simp only [Option.map_some, Option.getD_some]
  rw [show 7 - (7 - i) = i by omega]
theorem len_tailed (l : List Int) (N i : Nat) (h : l.length + 9 ≤ N) (hi : i ≤ 8) : (tailed l N i).length = N := by
  simp only [tailed, List.length_append, List.length_replicate, List.length_drop, len_len8, List.length_cons, List.length_nil]; omega
theorem tailed_zero (l : List Int) (N : Nat) (h : l.length + 9 ≤ N) : pre (l ++ [128]) N = tailed l N 0 := by
  unfold pre tailed
  rw [Nat.sub_zero, List.drop_of_length_le (by rw [len_len8]; exact Nat.le_refl _), List.append_nil, List.append_assoc (l ++ [128]), List.replicate_append_replicate]
  congr 2
  simp only [List.length_append, List.length_cons, List.length_nil]; omega
theorem tailed_set (l : List Int) (N i : Nat) (h : l.length + 9 ≤ N) (hi : i < 8) : (tailed l N i).set (N - 1 - i) ((len8 l.length).getD (7 - i) 0) = tailed l N (i + 1) := by
  have e1 : (l ++ [128] ++ List.replicate (N - l.length - 9) (0 : Int)).length = N - 8 := by
    simp only [List.length_append, List.length_replicate, List.length_cons, List.length_nil]; omega
  have e2 : (len8 l.length).drop (7 - i) = (len8 l.length).getD (7 - i) 0 :: (len8 l.length).drop (8 - i) := by
    rw [List.drop_eq_getElem_cons (by rw [len_len8]; omega), show 7 - i + 1 = 8 - i by omega]
    congr 1
    simp [List.getD, show 7 - i < (len8 l.length).length by rw [len_len8]; omega]
  unfold tailed
  rw [List.set_append_right _ _ (by rw [e1]; omega), e1, show N - 1 - i - (N - 8) = 7 - i by omega, show 8 - (i + 1) = 7 - i by omega, e2, show 8 - i = (7 - i) + 1 by omega, List.replicate_succ']
  rw [List.append_assoc (List.replicate (7 - i) 0), List.set_append_right _ _ (by rw [List.length_replicate]; exact Nat.le_refl _), List.length_replicate, Nat.sub_self]
  rfl
theorem tailed_eight (l : List Int) : tailed l (nblocks l.length * 64) 8 = pad l := by
  simp [tailed, pad]
theorem len_pad (l : List Int) : (pad l).length = nblocks l.length * 64 := by
  rw [← tailed_eight, len_tailed _ _ _ (nblocks_bd _).1 (Nat.le_refl _)]
theorem pad_wf (l : List Int) (h : ∀ z ∈ l, 0 ≤ z ∧ z < 256) : ∀ z ∈ pad l, 0 ≤ z ∧ z < 256 := by
  intro z hz
  simp only [pad, List.mem_append, List.mem_cons, List.not_mem_nil, or_false, List.mem_replicate, len8, List.mem_map] at hz
  rcases hz with ((hz | rfl) | ⟨_, rfl⟩) | ⟨i, _, rfl⟩
  · exact h z hz
  · omega
  · omega
  · omega
attribute [irreducible] u
end Sha
end Go.Proofs.YtlimcaajpoeoaaaDoor
