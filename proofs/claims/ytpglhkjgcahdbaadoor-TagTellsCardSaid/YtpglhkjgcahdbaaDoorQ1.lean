/- Texts of this proof, merged: ShaMath, Law, Mem. -/
import Derived.WalkKit
import Derived.Laws.BitsAllLaws
import Derived.ProofKit
import Derived.OpenShut
import Derived.Below
import Derived.ChangeSame
import Derived.Carry
import Derived.SizedLaws
import Derived.Laws.OwnMore
import Derived.Deep.Draws
import Derived.Laws.AppendOwn
import Derived.BigFrame
/- The digest of bytes as a plain function on lists of whole numbers, over 32-bit words. No program in it. -/
namespace Go.Proofs.YtpglhkjgcahdbaaDoor
namespace Sha
abbrev W := BitVec 32
/-- A word as the walk's whole number. -/
def u (x : W) : Int := (x.toNat : Int)
theorem u_lo (x : W) : 0 ≤ u x := by unfold u; omega
theorem u_hi (x : W) : u x < 4294967296 := by unfold u; have := x.isLt; omega
theorem of_u (x : W) : BitVec.ofInt 32 (u x) = x := by unfold u; simp
theorem u_inj {x y : W} (h : u x = u y) : x = y := by unfold u at h; exact BitVec.eq_of_toNat_eq (by omega)
theorem wrap_u (x : W) : IntKind.u32.wrap (u x) = u x := by
  rw [IntKind.wrap_u32]; have := u_lo x; have := u_hi x; omega
theorem u_add (x y : W) : IntKind.u32.wrap (u x + u y) = u (x + y) := by
  rw [IntKind.wrap_u32]; unfold u; rw [BitVec.toNat_add]; simp
theorem back (x : W) : IntKind.u32.wrap (x.toNat : Int) = u x := wrap_u x
theorem u_xor (x y : W) : bits .xor .u32 (u x) (u y) = u (x ^^^ y) := by
  show IntKind.u32.wrap ((BitVec.ofInt 32 (u x) ^^^ BitVec.ofInt 32 (u y)).toNat : Int) = _
  rw [of_u, of_u, back]
theorem u_and (x y : W) : bits .and .u32 (u x) (u y) = u (x &&& y) := by
  show IntKind.u32.wrap ((BitVec.ofInt 32 (u x) &&& BitVec.ofInt 32 (u y)).toNat : Int) = _
  rw [of_u, of_u, back]
theorem u_or (x y : W) : bits .or .u32 (u x) (u y) = u (x ||| y) := by
  show IntKind.u32.wrap ((BitVec.ofInt 32 (u x) ||| BitVec.ofInt 32 (u y)).toNat : Int) = _
  rw [of_u, of_u, back]
theorem u_not (x : W) : bits .xor .u32 IntKind.u32.max (u x) = u (~~~x) := by
  show IntKind.u32.wrap ((BitVec.ofInt 32 4294967295 ^^^ BitVec.ofInt 32 (u x)).toNat : Int) = _
  rw [of_u, back]
  congr 1
theorem u_ofInt (z : Int) (h0 : 0 ≤ z) (h1 : z < 4294967296) : u (BitVec.ofInt 32 z) = z := by
  unfold u
  rw [BitVec.toNat_ofInt]
  omega
theorem u_shl (x : W) (n : Nat) : IntKind.u32.wrap (u x * 2 ^ n) = u (x <<< n) := by
  rw [IntKind.wrap_u32]
  unfold u
  rw [BitVec.toNat_shiftLeft, Nat.shiftLeft_eq, Int.natCast_emod, Int.natCast_mul, Int.natCast_pow]
  rfl
theorem u_shr (x : W) (n : Nat) : u x / 2 ^ n = u (x >>> n) := by
  unfold u
  rw [BitVec.toNat_ushiftRight, Nat.shiftRight_eq_div_pow, Int.natCast_ediv, Int.natCast_pow]
  rfl
theorem add_u (x y : W) : (u x + u y) % 4294967296 = u (x + y) := by rw [← u_add, IntKind.wrap_u32]
def rr (x : W) (n : Nat) : W := (x >>> n) ||| (x <<< (32 - n))
theorem rot_u (x : W) (n k : Nat) (p q : Int) (hn : n + k = 32) (hp : p = 2 ^ k) (hq : q = 2 ^ n) : bits .or .u32 (u x * p % 4294967296) (u x / q) = u (rr x n) := by
  obtain rfl : k = 32 - n := by omega
  subst hp hq
  rw [u_shr, show (u x * 2 ^ (32 - n) % 4294967296) = u (x <<< (32 - n)) by rw [← u_shl, IntKind.wrap_u32], u_or, rr, BitVec.or_comm]
theorem rot_u' (x : W) (n k : Nat) (p q : Int) (hn : n + k = 32) (hp : p = 2 ^ k) (hq : q = 2 ^ n) : bits .or .u32 (u x / q) (u x * p % 4294967296) = u (rr x n) := by
  obtain rfl : k = 32 - n := by omega
  subst hp hq
  rw [u_shr, show (u x * 2 ^ (32 - n) % 4294967296) = u (x <<< (32 - n)) by rw [← u_shl, IntKind.wrap_u32], u_or, rr]
def K : List W := [1116352408, 1899447441, 3049323471, 3921009573, 961987163, 1508970993, 2453635748, 2870763221, 3624381080, 310598401, 607225278, 1426881987, 1925078388, 2162078206, 2614888103, 3248222580, 3835390401, 4022224774, 264347078, 604807628, 770255983, 1249150122, 1555081692, 1996064986, 2554220882, 2821834349, 2952996808, 3210313671, 3336571891, 3584528711, 113926993, 338241895, 666307205, 773529912, 1294757372, 1396182291, 1695183700, 1986661051, 2177026350, 2456956037, 2730485921, 2820302411, 3259730800, 3345764771, 3516065817, 3600352804, 4094571909, 275423344, 430227734, 506948616, 659060556, 883997877, 958139571, 1322822218, 1537002063, 1747873779, 1955562222, 2024104815, 2227730452, 2361852424, 2428436474, 2756734187, 3204031479, 3329325298]
structure St where
  a : W
  b : W
  c : W
  d : W
  e : W
  f : W
  g : W
  h : W
def tt (s : St) (k w : W) : W := s.h + (rr s.e 6 ^^^ rr s.e 11 ^^^ rr s.e 25) + (s.e &&& s.f ^^^ ~~~s.e &&& s.g) + k + w
def vv (s : St) : W := (rr s.a 2 ^^^ rr s.a 13 ^^^ rr s.a 22) + (s.a &&& s.b ^^^ s.a &&& s.c ^^^ s.b &&& s.c)
def step (s : St) (k w : W) : St := ⟨tt s k w + vv s, s.a, s.b, s.c, s.d + tt s k w, s.e, s.f, s.g⟩
def after (ws : List W) (s : St) : Nat → St
  | 0 => s
  | k + 1 => step (after ws s k) (K.getD k 0) (ws.getD k 0)
def plus (s t : St) : St := ⟨s.a + t.a, s.b + t.b, s.c + t.c, s.d + t.d, s.e + t.e, s.f + t.f, s.g + t.g, s.h + t.h⟩
def word (a b c d : Int) : W := ((BitVec.ofInt 32 a <<< 8 ||| BitVec.ofInt 32 b) <<< 8 ||| BitVec.ofInt 32 c) <<< 8 ||| BitVec.ofInt 32 d
/-- s0 and s1. -/
def s0 (x : W) : W := rr x 7 ^^^ rr x 18 ^^^ x >>> 3
def s1 (y : W) : W := rr y 17 ^^^ rr y 19 ^^^ y >>> 10
def next (l : List W) : W := l.getD (l.length - 16) 0 + s0 (l.getD (l.length - 15) 0) + l.getD (l.length - 7) 0 + s1 (l.getD (l.length - 2) 0)
def words (l : List Int) : Nat → List W
  | 0 => []
  | n + 1 => words l n ++ [word (l.getD (4 * n) 0) (l.getD (4 * n + 1) 0) (l.getD (4 * n + 2) 0) (l.getD (4 * n + 3) 0)]
/-- w0 to w(n+15). -/
def grow (l : List Int) : Nat → List W
  | 0 => words l 16
  | n + 1 => grow l n ++ [next (grow l n)]
def sched (l : List Int) : List W := grow l 48
def block (s : St) (l : List Int) : St := plus s (after (sched l) s 64)
/-- The state behind n blocks of l. -/
def upto (l : List Int) : Nat → St
  | 0 => ⟨0x6a09e667, 0xbb67ae85, 0x3c6ef372, 0xa54ff53a, 0x510e527f, 0x9b05688c, 0x1f83d9ab, 0x5be0cd19⟩
  | n + 1 => block (upto l n) ((l.drop (64 * n)).take 64)
def byte (x : W) (n : Nat) : Int := u (x >>> n) % 256
def wordAt (s : St) (i : Nat) : W := [s.a, s.b, s.c, s.d, s.e, s.f, s.g, s.h].getD i 0
def lay (s : St) : List Int := (List.range 32).map fun i => byte (wordAt s (i / 4)) (24 - 8 * (i % 4))
def len8 (n : Nat) : List Int := (List.range 8).map fun i => ((n * 8 / 256 ^ (7 - i) % 256 : Nat) : Int)
def nblocks (n : Nat) : Nat := (n + 72) / 64
def pad (l : List Int) : List Int := l ++ [128] ++ List.replicate (nblocks l.length * 64 - l.length - 9) 0 ++ len8 l.length
def sha (l : List Int) : List Int := lay (upto (pad l) (nblocks l.length))
example : (sha [97,98,99]).take 8 = [186, 120, 22, 191, 143, 1, 207, 234] := by decide +kernel
theorem u_shl8 (x : W) : u x * (256 : Int) % (4294967296 : Int) = u (x <<< (8 : Nat)) := by
  have := u_shl x 8
  rw [IntKind.wrap_u32] at this
  exact this
theorem u_orI (x : W) (z : Int) : bits .or .u32 (u x) z = u (x ||| BitVec.ofInt 32 z) := by
  show IntKind.u32.wrap ((BitVec.ofInt 32 (u x) ||| BitVec.ofInt 32 z).toNat : Int) = _
  rw [of_u, back]
theorem u_zero : u 0 = 0 := rfl
theorem len_words (l : List Int) : ∀ n, (words l n).length = n
  | 0 => rfl
  | n + 1 => by rw [words, List.length_append, len_words l n]; rfl
theorem len_grow (l : List Int) : ∀ n, (grow l n).length = 16 + n
  | 0 => len_words l 16
  | n + 1 => by rw [grow, List.length_append, len_grow l n]; simp; omega
theorem set_next {A : List W} {x : W} {m n : Nat} (h : A.length = n) (hm : 0 < m) : (A ++ List.replicate m 0).set n x = A ++ [x] ++ List.replicate (m - 1) 0 := by
  subst h
  obtain ⟨k, rfl⟩ : ∃ k, m = k + 1 := ⟨m - 1, by omega⟩
  rw [List.set_append_right _ _ (Nat.le_refl _), Nat.sub_self, List.replicate_succ, List.set_cons_zero]
  simp
def rowA (l : List Int) (i : Nat) : List W := words l i ++ List.replicate (64 - i) 0
def part (l : List Int) (i : Nat) : Nat → W
  | 0 => 0
  | j + 1 => part l i j <<< 8 ||| BitVec.ofInt 32 (l.getD (4 * i + j) 0)
theorem len_rowA (l : List Int) (i : Nat) (h : i ≤ 64) : (rowA l i).length = 64 := by
  rw [rowA, List.length_append, len_words, List.length_replicate]; omega
theorem rowA_zero (l : List Int) (i : Nat) (h : i < 64) : (rowA l i).set i (part l i 0) = rowA l i := by
  rw [rowA, set_next (len_words l i) (by omega), part, List.append_assoc]
  congr 1
  rw [show 64 - i = (64 - i - 1) + 1 by omega, List.replicate_succ]
  rfl
theorem part_four (l : List Int) (i : Nat) : part l i 4 = word (l.getD (4 * i) 0) (l.getD (4 * i + 1) 0) (l.getD (4 * i + 2) 0) (l.getD (4 * i + 3) 0) := by
  have e : (0 : W) <<< 8 ||| BitVec.ofInt 32 (l.getD (4 * i + 0) 0) = BitVec.ofInt 32 (l.getD (4 * i) 0) := by simp
  simp only [part, word, e]
theorem rowA_four (l : List Int) (i : Nat) (h : i < 64) : (rowA l i).set i (part l i 4) = rowA l (i + 1) := by
  rw [rowA, set_next (len_words l i) (by omega), part_four, rowA, words]
  rfl
theorem set_get (A : List W) (n : Nat) (x : W) (h : n < A.length) : (A.set n x).getD n 0 = x := by
  simp [List.getD, h]
theorem set_twice (A : List W) (n : Nat) (x y : W) : (A.set n x).set n y = A.set n y := by simp
def rowB (l : List Int) (n : Nat) : List W := grow l n ++ List.replicate (48 - n) 0
theorem len_rowB (l : List Int) (n : Nat) (h : n ≤ 48) : (rowB l n).length = 64 := by
  rw [rowB, List.length_append, len_grow, List.length_replicate]; omega
theorem rowB_start (l : List Int) : rowA l 16 = rowB l 0 := rfl
theorem rowB_end (l : List Int) : rowB l 48 = sched l := by simp [rowB, sched]
theorem rowB_at (l : List Int) (n i : Nat) (h : i < 16 + n) : (rowB l n).getD i 0 = (grow l n).getD i 0 := by
  unfold rowB
  simp only [List.getD]
  rw [List.getElem?_append_left (by rw [len_grow]; exact h)]
theorem rowB_set (l : List Int) (n : Nat) (h : n < 48) : (rowB l n).set (16 + n) (next (grow l n)) = rowB l (n + 1) := by
  rw [rowB, set_next (len_grow l n) (by omega), rowB, grow]
  rfl
theorem next_eq (l : List Int) (n : Nat) : next (grow l n) = (rowB l n).getD n 0 + s0 ((rowB l n).getD (n + 1) 0) + (rowB l n).getD (n + 9) 0 + s1 ((rowB l n).getD (n + 14) 0) := by
  rw [rowB_at l n n (by omega), rowB_at l n (n + 1) (by omega), rowB_at l n (n + 9) (by omega), rowB_at l n (n + 14) (by omega), next, len_grow]
  rw [show 16 + n - 16 = n by omega, show 16 + n - 15 = n + 1 by omega, show 16 + n - 7 = n + 9 by omega, show 16 + n - 2 = n + 14 by omega]
theorem len_sched (l : List Int) : (sched l).length = 64 := len_grow l 48
theorem len_lay (s : St) : (lay s).length = 32 := by simp [lay]
theorem lay_at (s : St) (q r : Nat) (hq : q < 8) (hr : r < 4) : (lay s).getD (4 * q + r) 0 = byte (wordAt s q) (24 - 8 * r) := by
  unfold lay
  simp only [List.getD]
  rw [List.getElem?_map, List.getElem?_range (by omega)]
  simp only [Option.map_some, Option.getD_some]
  rw [show (4 * q + r) / 4 = q by omega, show (4 * q + r) % 4 = r by omega]
/-- The first n of l, and zeros behind them. -/
def filled (l : List Int) (n m : Nat) : List Int := l.take n ++ List.replicate (m - n) 0
theorem len_filled (l : List Int) (n m : Nat) (h : n ≤ l.length) (hm : n ≤ m) : (filled l n m).length = m := by
  rw [filled, List.length_append, List.length_take, List.length_replicate]; omega
theorem filled_set (l : List Int) (n m : Nat) (h : n < l.length) (hm : n < m) : (filled l n m).set n (l.getD n 0) = filled l (n + 1) m := by
  have hl : (l.take n).length = n := by rw [List.length_take]; omega
  rw [filled, filled, List.set_append_right _ _ (by omega), hl, Nat.sub_self, show m - n = (m - (n + 1)) + 1 by omega, List.replicate_succ, List.set_cons_zero, List.take_succ_eq_append_getElem h, List.append_assoc]
  simp [List.getD, h]
theorem filled_all (l : List Int) (m : Nat) (h : l.length = m) : filled l m m = l := by
  rw [filled, List.take_of_length_le (by omega), Nat.sub_self]; simp
def pre (l : List Int) (N : Nat) : List Int := l ++ List.replicate (N - l.length) 0
theorem len_pre (l : List Int) (N : Nat) (h : l.length ≤ N) : (pre l N).length = N := by
  rw [pre, List.length_append, List.length_replicate]; omega
theorem pre_set (l : List Int) (N : Nat) (x : Int) (h : l.length < N) : (pre l N).set l.length x = pre (l ++ [x]) N := by
  rw [pre, pre, List.set_append_right _ _ (Nat.le_refl _), Nat.sub_self, show N - l.length = (N - l.length - 1) + 1 by omega, List.replicate_succ, List.set_cons_zero, List.append_assoc]
  simp
  omega
theorem nblocks_bd (n : Nat) : n + 9 ≤ nblocks n * 64 ∧ nblocks n * 64 ≤ n + 72 := by unfold nblocks; omega
def tailed (l : List Int) (N i : Nat) : List Int := l ++ [128] ++ List.replicate (N - l.length - 9) 0 ++ (List.replicate (8 - i) 0 ++ (len8 l.length).drop (8 - i))
theorem len_len8 (n : Nat) : (len8 n).length = 8 := by simp [len8]
theorem len8_at (n i : Nat) (h : i < 8) : (len8 n).getD (7 - i) 0 = ((n * 8 / 256 ^ i % 256 : Nat) : Int) := by
  unfold len8
  simp only [List.getD]
  rw [List.getElem?_map, List.getElem?_range (by omega)]
  simp only [Option.map_some, Option.getD_some]
  rw [show 7 - (7 - i) = i by omega]
theorem len_tailed (l : List Int) (N i : Nat) (h : l.length + 9 ≤ N) (hi : i ≤ 8) : (tailed l N i).length = N := by
  simp only [tailed, List.length_append, List.length_replicate, List.length_drop, len_len8, List.length_cons, List.length_nil]; omega
theorem tailed_zero (l : List Int) (N : Nat) (h : l.length + 9 ≤ N) : pre (l ++ [128]) N = tailed l N 0 := by
  unfold pre tailed
  rw [Nat.sub_zero, List.drop_of_length_le (by rw [len_len8]; exact Nat.le_refl _), List.append_nil, List.append_assoc (l ++ [128]), List.replicate_append_replicate]
  congr 2
  simp only [List.length_append, List.length_cons, List.length_nil]; omega
theorem tailed_set (l : List Int) (N i : Nat) (h : l.length + 9 ≤ N) (hi : i < 8) : (tailed l N i).set (N - 1 - i) ((len8 l.length).getD (7 - i) 0) = tailed l N (i + 1) := by
  have e1 : (l ++ [128] ++ List.replicate (N - l.length - 9) (0 : Int)).length = N - 8 := by
    simp only [List.length_append, List.length_replicate, List.length_cons, List.length_nil]; omega
  have e2 : (len8 l.length).drop (7 - i) = (len8 l.length).getD (7 - i) 0 :: (len8 l.length).drop (8 - i) := by
    rw [List.drop_eq_getElem_cons (by rw [len_len8]; omega), show 7 - i + 1 = 8 - i by omega]
    congr 1
    simp [List.getD, show 7 - i < (len8 l.length).length by rw [len_len8]; omega]
  unfold tailed
  rw [List.set_append_right _ _ (by rw [e1]; omega), e1, show N - 1 - i - (N - 8) = 7 - i by omega, show 8 - (i + 1) = 7 - i by omega, e2, show 8 - i = (7 - i) + 1 by omega, List.replicate_succ']
  rw [List.append_assoc (List.replicate (7 - i) 0), List.set_append_right _ _ (by rw [List.length_replicate]; exact Nat.le_refl _), List.length_replicate, Nat.sub_self]
  rfl
theorem tailed_eight (l : List Int) : tailed l (nblocks l.length * 64) 8 = pad l := by
  simp [tailed, pad]
theorem len_pad (l : List Int) : (pad l).length = nblocks l.length * 64 := by
  rw [← tailed_eight, len_tailed _ _ _ (nblocks_bd _).1 (Nat.le_refl _)]
theorem pad_wf (l : List Int) (h : ∀ z ∈ l, 0 ≤ z ∧ z < 256) : ∀ z ∈ pad l, 0 ≤ z ∧ z < 256 := by
  intro z hz
  simp only [pad, List.mem_append, List.mem_cons, List.not_mem_nil, or_false, List.mem_replicate, len8, List.mem_map] at hz
  rcases hz with ((hz | rfl) | ⟨_, rfl⟩) | ⟨i, _, rfl⟩
  · exact h z hz
  · omega
  · omega
  · omega
attribute [irreducible] u
end Sha
end Go.Proofs.YtpglhkjgcahdbaaDoor
/- From 'the law's walk returns true and below the old heap nothing has turned' to the row of a law, whatever its parameters' types: each argument reads behind the call as it did. No program in it. -/
namespace Go.Proofs.YtpglhkjgcahdbaaDoor
open Go.ChangeShapes Go.WideShapes Go.ChangeAt Go.RowKit
section
variable {H : Type} {enc : TypeId × Value → H} {P : Program}
theorem post_of_below {f : Func} {s : ChangeSpec} {apart fresh handsOn again : Bool} {W W' : World} {args : Array Value} {v : Value} {ds gs : List (DataW H)} {before pa pv : List MemPlace}
    (hW : DataW.Whole enc P f.params.toList s.vars apart W args.toList ds gs before)
    (hres : ∀ (b : Nat) (sp : Nat → Bool) (hd : Bool), DataW.TrodAll enc P W' b sp hd f.resultTypes.toList (v.resultList f.resultTypes.size) (s.fn H (ds ++ gs)).results [])
    (hargs : ∀ sp : Nat → Bool, (∀ p ∈ before, sp p.block = true) → DataW.TrodAll enc P W' 0 sp true f.params.toList args.toList (s.fn H (ds ++ gs)).args pa)
    (hvars : ∀ sp : Nat → Bool, (∀ p ∈ before, sp p.block = true) → DataW.TrodVars enc P W' sp s.vars (s.fn H (ds ++ gs)).vars pv)
    (hps : before = pa ++ pv) (hb : Below W.heap.size W W')
    (hok : ∀ (j : Nat) (t : TypeId) (r : Value), f.resultTypes[j]? = some t → (v.resultList f.resultTypes.size)[j]? = some r → Value.okWide P W' .any 0 t r) :
    s.post enc P f apart fresh handsOn again W args v W' := by
  have hlt : ∀ p ∈ before, p.block < W.heap.size := fun p hp => hW.lt p hp
  have hold : ∀ p ∈ before, (fun b => decide (b < W.heap.size)) p.block = true := fun p hp => by simpa using hlt p hp
  refine ⟨ds, gs, before, [], pa, pv, hW, hres _ _ _, hargs _ hold, hvars _ hold, World.keptBut_mono (fun p hp => ⟨hp, ?_⟩) (hb.frame (· ∈ before)), fun _ => ?_⟩
  · rw [hps, List.mem_append] at hp
    exact Or.inr hp
  · obtain ⟨_, _, _, _, _, hz, hn⟩ := hW
    refine ⟨hok, _, _, ([] ++ pa) ++ pv, ⟨[] ++ pa, pv, trodAll_append (hargs _ (fun _ _ => rfl)) (hres _ _ _), hvars _ (fun _ _ => rfl), rfl, ?_, ?_⟩, ?_⟩
    · intro b off hp
      have hin : MemPlace.cell b off ∈ before := by rw [hps]; simpa using hp
      rw [hb.frozen (hlt _ hin)]
      exact hz b off hin
    · intro ha
      have := hn ha
      rw [hps] at this
      simpa using this
    · intro p hp _
      rw [hps]
      simpa using hp

theorem trodAll_len {w : World} {base : Nat} {sp : Nat → Bool} {held : Bool} : ∀ {ts : List TypeId} {vs : List Value} {ds : List (DataW H)} {ps : List MemPlace}, DataW.TrodAll enc P w base sp held ts vs ds ps → ds.length = ts.length
  | [], [], [], _, _ => rfl
  | _ :: _, _ :: _, _ :: _, _, ⟨_, _, _, h2, _⟩ => by simp [trodAll_len h2]

theorem trodAll_stays (hl : laidOutB P = true) {W W' : World} (hb : Below W.heap.size W W') {sp : Nat → Bool} : ∀ {ts : List TypeId} {vs : List Value} {ds : List (DataW H)} {ps : List MemPlace},
    (∀ t ∈ ts, P.readableRec t = true ∧ t < P.types.size) → DataW.TrodAll enc P W 0 (fun _ => true) true ts vs ds ps → (∀ p ∈ ps, p.block < W.heap.size) → (∀ p ∈ ps, sp p.block = true) → DataW.TrodAll enc P W' 0 sp true ts vs ds ps
  | [], [], [], _, _, h, _, _ => h
  | _ :: _, _ :: _, _ :: _, _, hts, ⟨p, q, h1, h2, e⟩, hlt, hs =>
    ⟨p, q, WideElems.Trod_stays hl (hts _ (List.mem_cons.2 (Or.inl rfl))).1 (hts _ (List.mem_cons.2 (Or.inl rfl))).2 h1 (fun x hx => hb.same (hlt x (by rw [e]; exact List.mem_append_left _ hx))) (fun x hx => hs x (by rw [e]; exact List.mem_append_left _ hx)),
      trodAll_stays hl hb (fun t ht => hts t (List.mem_cons.2 (Or.inr ht))) h2 (fun x hx => hlt x (by rw [e]; exact List.mem_append_right _ hx)) (fun x hx => hs x (by rw [e]; exact List.mem_append_right _ hx)), e⟩
end

/-- A law's row, by its walk. -/
theorem law_lifted {C : Checked} {os : Os} {f : FuncId} {fn : Func} {s : ChangeSpec} {H : Type} {enc : TypeId × Value → H} {B : TypeId} {conds : List PathCond} {fresh handsOn again : Bool}
    (own : ownKnob C.prog.godebug = none) (started : os.Started) (noInit : C.prog.inits.idxOf? f = none) (hfn : C.prog.funcs[f]? = some fn)
    (witness : ∃ (w : World) (tape : Tape) (i : Input), w.os = os ∧ (w.forCall tape i).Shaped C.prog ∧ i.vars = [] ∧ Input.okWide C.prog (w.forCall tape i) .any w.heap.size f i ∧
      s.pre6 enc C.prog fn conds false (w.forCall tape i).memory i.args ∧ ({} : Assume).holds C.prog (lone (Frame.enter C.prog f i.args .normal) [] (w.forCall tape i)))
    (hv : s.vars = []) (hres : fn.resultTypes = #[B]) (hB : C.prog.underlying B = some .bool)
    (hl : laidOutB C.prog = true) (hts : ∀ t ∈ fn.params.toList, C.prog.readableRec t = true ∧ t < C.prog.types.size)
    (hs : ∀ (ds : List (DataW H)), ds.length = fn.params.toList.length → s.fn H ds = { results := [.lit (.bool true)], args := ds })
    (walk : ∀ (W : World) (base : Nat) (args : Array Value) (ds : List (DataW H)) (ps : List MemPlace),
      (∀ (j : Nat) t v, fn.params[j]? = some t → args[j]? = some v → Value.okWide C.prog W .any base t v) →
      DataW.TrodAll enc C.prog W 0 (fun _ => true) true fn.params.toList args.toList ds ps → (∀ p ∈ ps, p.block < W.heap.size) →
      (DataW.weightsEach C.prog fn.params.toList ds).all (· ≤ reachBytes) = true →
      Calls C.prog f args W fun e W' => e = .returned (.bool true) ∧ Below W.heap.size W W') :
    ReturnsInHanded {} C os f .any (s.pre6 enc C.prog fn conds false) (s.post enc C.prog fn false fresh handsOn again) := by
  refine returnsInHanded_of_change_sized own started noInit hfn witness ?_
  intro W base args ds gs before hval hW hcnd hz _
  have hW' := hW
  obtain ⟨p, q, hA, hV, rfl, hfz, hnd⟩ := hW
  rw [hv] at hV
  obtain ⟨rfl, rfl⟩ := trodVars_none hV
  have hzz : (DataW.weightsEach C.prog fn.params.toList ds).all (· ≤ reachBytes) = true := by
    have e : s.plain.varTypes C.prog = [] := by simp [ChangeSpec.plain, DataSpec.varTypes, hv]
    rw [e, List.append_nil, List.append_nil] at hz
    exact hz
  have hlen : ds.length = fn.params.toList.length := trodAll_len hA
  have hlt : ∀ x ∈ p, x.block < W.heap.size := fun x hx => hW'.lt x (by simpa using hx)
  refine (walk W base args ds p hval hA hlt hzz).mono fun e W' ⟨he, hb⟩ => ⟨_, he, ?_⟩
  have hf : s.fn H (ds ++ []) = { results := [.lit (.bool true)], args := ds } := by rw [List.append_nil]; exact hs ds hlen
  refine post_of_below (pa := p) (pv := []) hW' ?_ ?_ ?_ rfl hb ?_
  · intro b sp hd
    rw [hf, hres]
    exact trodAll_mk1 (shut_bool hB _)
  · intro sp hsp
    rw [hf]
    exact trodAll_stays hl hb hts hA hlt (fun x hx => hsp x (by simpa using hx))
  · intro sp _
    rw [hf, hv]
    rfl
  · exact ok_one hres rfl (okWide_bool_mk hB _)
end Go.Proofs.YtpglhkjgcahdbaaDoor
/- Slices of numbers, nil let in: how they read, how they come in. No program in it. -/
namespace Go.Proofs.YtpglhkjgcahdbaaDoor
open Go.ChangeShapes Go.WideShapes Go.ChangeAt Go.RowKit

theorem ret_int {k : IntKind} {a b : Int} (h : a = b) : Ending.returned (.int k a) = .returned (.int k b) := by rw [h]
theorem ret_bool {a b : Bool} (h : a = b) : Ending.returned (.bool a) = .returned (.bool b) := by rw [h]

theorem quiet_left {P : Program} {f : FuncId} {args : Array Value} {w : World} {n : Nat} {v : Value}
    (h : Calls P f args (w.drewN n) fun e w' => e = .returned v ∧ w.drewN n = w') : Calls P f args (w.drewN n) fun e w'' => e = .returned v ∧ ∃ m, w'' = w.drewN m :=
  h.mono fun _ _ ⟨he, hm⟩ => ⟨he, n, hm.symm⟩

theorem below_drewN {B : Nat} {a w : World} (h : Below B a w) (n : Nat) : Below B a (w.drewN n) := ⟨h.os, h.tape, h.output, h.size, h.block⟩

theorem below_set {B : Nat} {a w : World} {b o : Nat} {u : Value} (h : Below B a w) (hb : B ≤ b) : Below B a (w.setCell ⟨b, o, none⟩ u) := h.setCell (p := ⟨b, o, none⟩) hb u
/-- The world with the block g written whole. -/
def setRow (w : World) (g : Nat) (t : TypeId) (cs : Array Value) : World := { w with heap := w.heap.setIfInBounds g (.cells cs t) }
section
variable {w : World} {g : Nat} {t : TypeId} {cs : Array Value}
theorem setRow_heap (k : Nat) : (setRow w g t cs).heap[k]? = if k = g ∧ g < w.heap.size then some (.cells cs t) else w.heap[k]? := by
  unfold setRow
  rw [Array.getElem?_setIfInBounds]
  by_cases h : g = k
  · subst h; by_cases h2 : g < w.heap.size <;> simp [h2]
  · rw [if_neg h, if_neg (by omega)]
theorem setRow_size : (setRow w g t cs).heap.size = w.heap.size := by simp [setRow]
theorem world_eq {a b : World} (h : ∀ k : Nat, a.heap[k]? = b.heap[k]?) (h1 : a.tape = b.tape) (h2 : a.drawn = b.drawn) (h3 : a.os = b.os) (h4 : a.output = b.output) : a = b := by
  have hh : a.heap = b.heap := Array.ext_getElem? h
  cases a; cases b; simp_all
theorem row_lt (h : w.heap[g]? = some (.cells cs t)) : g < w.heap.size := by
  rcases Nat.lt_or_ge g w.heap.size with h1 | h1
  · exact h1
  · rw [Array.getElem?_eq_none h1] at h; cases h
theorem setCell_row (h : w.heap[g]? = some (.cells cs t)) (i : Nat) (u : Value) : w.setCell ⟨g, i, none⟩ u = setRow w g t (cs.setIfInBounds i u) := by
  refine world_eq (fun k => ?_) rfl rfl rfl rfl
  rw [setRow_heap]
  by_cases hk : k = g
  · subst hk
    rw [if_pos ⟨rfl, row_lt h⟩]
    simp [World.setCell, Array.getElem?_modify, h]
  · rw [if_neg (by omega)]
    exact Below.heap_setCell _ _ _ _ hk
theorem setRow_row (h : g < w.heap.size) : (setRow w g t cs).heap[g]? = some (.cells cs t) := by rw [setRow_heap, if_pos ⟨rfl, h⟩]
theorem setRow_far {k : Nat} (h : k ≠ g) : (setRow w g t cs).heap[k]? = w.heap[k]? := by rw [setRow_heap, if_neg (by omega)]
theorem setRow_twice (ds : Array Value) : setRow (setRow w g t cs) g t ds = setRow w g t ds := by
  refine world_eq (fun k => ?_) rfl rfl rfl rfl
  rw [setRow_heap, setRow_heap, setRow_heap, setRow_size]
  by_cases hk : k = g ∧ g < w.heap.size
  · rw [if_pos hk, if_pos hk]
  · rw [if_neg hk, if_neg hk, if_neg hk]
theorem setRow_set (h : g < w.heap.size) (i : Nat) (u : Value) : (setRow w g t cs).setCell ⟨g, i, none⟩ u = setRow w g t (cs.setIfInBounds i u) := by
  rw [setCell_row (setRow_row h), setRow_twice]
theorem setRow_cell (h : g < w.heap.size) (i : Nat) : (setRow w g t cs).cell? ⟨g, i, none⟩ = cs[i]? := cell_of_row _ _ _ _ _ _ (setRow_row h)
theorem frozen_row (h : w.heap[g]? = some (.cells cs t)) (i : Nat) : w.frozen? ⟨g, i, none⟩ = false := by simp [World.frozen?, h]
theorem setRow_below {B : Nat} {a : World} (hb : Below B a w) (hg : B ≤ g) : Below B a (setRow w g t cs) :=
  ⟨hb.os, hb.tape, hb.output, by rw [setRow_size]; exact hb.size, fun k hk => by rw [setRow_far (by omega)]; exact hb.block k hk⟩
end

/-- What a walk needs of two blocks of the call's own (g the one that is written again and again, g2 the other): all as rules without a condition. -/
structure Rows2 (w : World) (g : Nat) (t : TypeId) (cs : Array Value) (g2 : Nat) (t2 : TypeId) (cs2 : Array Value) : Prop where
  set0 : ∀ i u, w.setCell ⟨g, i, none⟩ u = setRow w g t (cs.setIfInBounds i u)
  set1 : ∀ ds i u, (setRow w g t ds).setCell ⟨g, i, none⟩ u = setRow w g t (ds.setIfInBounds i u)
  cell1 : ∀ ds i, (setRow w g t ds).cell? ⟨g, i, none⟩ = ds[i]?
  frozen1 : ∀ ds i, (setRow w g t ds).frozen? ⟨g, i, none⟩ = false
  cell2 : ∀ ds i, (setRow w g t ds).cell? ⟨g2, i, none⟩ = cs2[i]?
  frozen2 : ∀ ds i, (setRow w g t ds).frozen? ⟨g2, i, none⟩ = false
  set2 : ∀ ds i u, (setRow w g t ds).setCell ⟨g2, i, none⟩ u = setRow (setRow w g t ds) g2 t2 (cs2.setIfInBounds i u)
  set3 : ∀ ds es i u, (setRow (setRow w g t ds) g2 t2 es).setCell ⟨g2, i, none⟩ u = setRow (setRow w g t ds) g2 t2 (es.setIfInBounds i u)
  cell3 : ∀ ds es i, (setRow (setRow w g t ds) g2 t2 es).cell? ⟨g2, i, none⟩ = es[i]?
  frozen3 : ∀ ds es i, (setRow (setRow w g t ds) g2 t2 es).frozen? ⟨g2, i, none⟩ = false
  size1 : ∀ ds, (setRow w g t ds).heap.size = w.heap.size
  cell0 : ∀ i, w.cell? ⟨g, i, none⟩ = cs[i]?
  frozen0 : ∀ i, w.frozen? ⟨g, i, none⟩ = false
  cell02 : ∀ i, w.cell? ⟨g2, i, none⟩ = cs2[i]?
  frozen02 : ∀ i, w.frozen? ⟨g2, i, none⟩ = false
theorem rows2 {w : World} {g g2 : Nat} {t t2 : TypeId} {cs cs2 : Array Value} (h1 : w.heap[g]? = some (.cells cs t)) (h2 : w.heap[g2]? = some (.cells cs2 t2)) (hne : g2 ≠ g) : Rows2 w g t cs g2 t2 cs2 := by
  have l1 := row_lt h1
  have l2 := row_lt h2
  have r2 : ∀ ds, (setRow w g t ds).heap[g2]? = some (.cells cs2 t2) := fun ds => (setRow_far hne).trans h2
  exact ⟨setCell_row h1, fun ds => setRow_set l1, fun ds => setRow_cell l1, fun ds => frozen_row (setRow_row l1), fun ds _ => cell_of_row _ _ _ _ _ _ (r2 ds), fun ds => frozen_row (r2 ds), fun ds => setCell_row (r2 ds),
    fun ds es => setRow_set (by rw [setRow_size]; exact l2), fun ds es => setRow_cell (by rw [setRow_size]; exact l2), fun ds es => frozen_row (setRow_row (by rw [setRow_size]; exact l2)), fun ds => setRow_size,
    fun _ => cell_of_row _ _ _ _ _ _ h1, frozen_row h1, fun i => cell_of_row _ _ _ _ _ _ h2, frozen_row h2⟩

/-- Two new blocks, and then a call that turns nothing of what was there: they are still as they were laid. -/
theorem two_blocks {w w' : World} {cs cs2 : Array Value} {t t2 : TypeId} (hb : Below ((w.alloc (.cells cs t)).alloc (.cells cs2 t2)).heap.size ((w.alloc (.cells cs t)).alloc (.cells cs2 t2)) w') :
    w'.heap[w.heap.size]? = some (.cells cs t) ∧ w'.heap[w.heap.size + 1]? = some (.cells cs2 t2) ∧ w.heap.size + 1 < w'.heap.size ∧ Below w.heap.size w w' := by
  have h1 : ((w.alloc (.cells cs t)).alloc (.cells cs2 t2)).heap[w.heap.size]? = some (.cells cs t) := by
    rw [Below.heap_alloc _ _ _ (by simp)]; exact (MapKept.heap_alloc w _).1
  have h2 : ((w.alloc (.cells cs t)).alloc (.cells cs2 t2)).heap[w.heap.size + 1]? = some (.cells cs2 t2) := by
    have := (MapKept.heap_alloc (w.alloc (.cells cs t)) (.cells cs2 t2)).1
    simpa using this
  have hz : ((w.alloc (.cells cs t)).alloc (.cells cs2 t2)).heap.size = w.heap.size + 1 + 1 := by simp
  exact ⟨(hb.block w.heap.size (by omega)).trans h1, (hb.block (w.heap.size + 1) (by omega)).trans h2, by have := hb.size; omega,
    (((Below.refl _ _).alloc (Nat.le_refl _) _).alloc (by simp) _).trans (hb.mono (by omega))⟩
/-- A new block, and then a call that turns nothing of what was there. -/
theorem new_kept {w w' : World} {cs : Array Value} {t : TypeId} (hb : Below (w.alloc (.cells cs t)).heap.size (w.alloc (.cells cs t)) w') :
    w'.heap[w.heap.size]? = some (.cells cs t) ∧ w.heap.size < w'.heap.size ∧ Below w.heap.size w w' := by
  have h1 : (w.alloc (.cells cs t)).heap[w.heap.size]? = some (.cells cs t) := (MapKept.heap_alloc w _).1
  have hz : (w.alloc (.cells cs t)).heap.size = w.heap.size + 1 := by simp
  exact ⟨(hb.block w.heap.size (by omega)).trans h1, by have := hb.size; omega, ((Below.refl _ _).alloc (Nat.le_refl _) _).trans (hb.mono (by omega))⟩
theorem row_kept {w w' : World} {B g : Nat} {o : Obj} (h : w.heap[g]? = some o) (hb : Below B w w') (hg : g < B) : w'.heap[g]? = some o := (hb.block g hg).trans h
theorem row_cells {w : World} {g : Nat} {cs : Array Value} {t : TypeId} (h : w.heap[g]? = some (.cells cs t)) : ∀ i, w.cell? ⟨g, i, none⟩ = cs[i]? := fun _ => cell_of_row _ _ _ _ _ _ h
theorem bcell {W w1 : World} (hb : Below W.heap.size W w1) : (∀ b o, b < W.heap.size → w1.cell? ⟨b, o, none⟩ = W.cell? ⟨b, o, none⟩) ∧ (∀ b o, b < W.heap.size → w1.frozen? ⟨b, o, none⟩ = W.frozen? ⟨b, o, none⟩) :=
  ⟨fun b o h => hb.cell (p := ⟨b, o, none⟩) h, fun b o h => hb.frozen (p := ⟨b, o, none⟩) h⟩

/-- The cells of a slice of numbers of a kind. -/
def Nums (k : IntKind) (w : World) (A : Option Addr) (zs : List Int) : Prop :=
  zs = [] ∨ ∃ b off, A = some ⟨b, off, none⟩ ∧ b < w.heap.size ∧ ∀ i, i < zs.length → w.cell? ⟨b, off + i, none⟩ = some (.int k (zs.getD i 0))

section
variable {k : IntKind} {w w' : World} {A : Option Addr} {zs : List Int}
theorem Nums.nil : Nums k w A [] := Or.inl rfl
theorem Nums.below (h : Nums k w A zs) (hb : Below w.heap.size w w') : Nums k w' A zs := by
  rcases h with rfl | ⟨b, off, rfl, hlt, hc⟩
  · exact Or.inl rfl
  · exact Or.inr ⟨b, off, rfl, Nat.lt_of_lt_of_le hlt hb.size, fun i hi => (hb.cell (p := ⟨b, off + i, none⟩) hlt).trans (hc i hi)⟩
theorem Nums.keep {B : Nat} (h : Nums k w A zs) (hl : ∀ b off, A = some ⟨b, off, none⟩ → b < B) (hb : Below B w w') : Nums k w' A zs := by
  rcases h with rfl | ⟨b, off, rfl, hlt, hc⟩
  · exact Or.inl rfl
  · exact Or.inr ⟨b, off, rfl, Nat.lt_of_lt_of_le hlt hb.size, fun i hi => (hb.cell (p := ⟨b, off + i, none⟩) (hl b off rfl)).trans (hc i hi)⟩
theorem Nums.alloc (h : Nums k w A zs) (o : Obj) : Nums k (w.alloc o) A zs := h.below ((Below.refl _ _).alloc (Nat.le_refl _) _)
theorem Nums.drew (h : Nums k w A zs) : Nums k w.drew A zs := h
theorem Nums.drewN (h : Nums k w A zs) (n : Nat) : Nums k (w.drewN n) A zs := h
theorem Nums.take (h : Nums k w A zs) (n : Nat) : Nums k w A (zs.take n) := by
  rcases h with rfl | ⟨b, off, rfl, hlt, hc⟩
  · exact Or.inl (by simp)
  · refine Or.inr ⟨b, off, rfl, hlt, fun i hi => ?_⟩
    have h1 : i < n := by rw [List.length_take] at hi; omega
    have h2 : i < zs.length := by rw [List.length_take] at hi; omega
    rw [hc i h2]
    simp [List.getD, h1]
theorem Nums.drop (h : Nums k w A zs) (n cap : Nat) (hn : n ≤ zs.length) (hcap : zs.length ≤ cap) : Nums k w (if cap = n then A else A.map (·.add n)) (zs.drop n) := by
  by_cases h0 : n = zs.length
  · exact Or.inl (by rw [h0]; simp)
  · rcases h with rfl | ⟨b, off, rfl, hlt, hc⟩
    · simp at hn; simp at h0; omega
    · rw [if_neg (by omega)]
      refine Or.inr ⟨b, off + n, by simp [Addr.add], hlt, fun i hi => ?_⟩
      rw [List.length_drop] at hi
      rw [show off + n + i = off + (n + i) from by omega, hc (n + i) (by omega)]
      simp [List.getD]
theorem Nums.new (w : World) (zs : List Int) (t : TypeId) (cs : Array Value) (g : Nat) (hg : g = w.heap.size) (hcs : cs = (zs.map (Value.int k)).toArray) : Nums k (w.alloc (.cells cs t)) (some ⟨g, 0, none⟩) zs := by
  subst hg; subst hcs
  refine Or.inr ⟨_, _, rfl, by simp, fun i hi => ?_⟩
  have h1 : (w.alloc (.cells (zs.map (Value.int k)).toArray t)).heap[w.heap.size]? = some (.cells (zs.map (Value.int k)).toArray t) := (MapKept.heap_alloc w _).1
  rw [cell_of_row _ _ _ _ _ _ h1]
  simp [List.getD, hi]
theorem Nums.of_own {base : Nat} {e : TypeId} {n c : Nat} (h : w.ownsRow base e 1 (.slice A n c) n (zs.map (Value.int k))) (hn : n = zs.length) : Nums k w A zs := by
  by_cases h0 : n = 0
  · exact Or.inl (List.eq_nil_of_length_eq_zero (by omega))
  · rcases h.2 with ⟨_, h1⟩ | ⟨g, cap, cur, hv, _, hh, hn1, _, hsz, htk⟩
    · omega
    · have hA : A = some ⟨g, 0, none⟩ := by injection hv
      subst hA
      have hlt : g < w.heap.size := by
        rcases Nat.lt_or_ge g w.heap.size with h1 | h1
        · exact h1
        · rw [Array.getElem?_eq_none h1] at hh; cases hh
      refine Or.inr ⟨g, 0, rfl, hlt, fun i hi => ?_⟩
      rw [Nat.zero_add, cell_of_row _ _ _ _ _ _ hh]
      have h2 : (cur.toList.take (n * 1))[i]? = some (.int k (zs.getD i 0)) := by
        rw [htk]; simp [List.getD, hi]
      rw [List.getElem?_take] at h2
      split at h2
      · simpa using h2
      · cases h2
end

/-- A slice of the call's own that holds these numbers, its block at or above 'base'. -/
def OwnN (k : IntKind) (E : TypeId) (base : Nat) (w : World) (A : Option Addr) (c : Nat) (l : List Int) : Prop :=
  w.ownsRow base E 1 (.slice A l.length c) l.length (l.map (Value.int k)) ∧ base ≤ w.heap.size
section
variable {k : IntKind} {w w' : World} {A : Option Addr} {l : List Int} {E : TypeId} {base c : Nat}
theorem OwnN.nil (h : base ≤ w.heap.size) : OwnN k E base w none 0 [] := ⟨World.ownsRow_nil _ _ _ _, h⟩
theorem OwnN.alloc (h : OwnN k E base w A c l) (o : Obj) : OwnN k E base (w.alloc o) A c l := ⟨h.1.alloc o, by simp; have := h.2; omega⟩
theorem OwnN.drew (h : OwnN k E base w A c l) : OwnN k E base w.drew A c l := h
theorem OwnN.drewN (h : OwnN k E base w A c l) (n : Nat) : OwnN k E base (w.drewN n) A c l := h
theorem OwnN.nums (h : OwnN k E base w A c l) : Nums k w A l := Nums.of_own h.1 rfl
theorem OwnN.len (h : OwnN k E base w A c l) : l.length ≤ c ∧ c ≤ maxLen := by
  rcases h.1.2 with ⟨h1, h2⟩ | ⟨g, cap, cur, hv, _, _, h3, h4, _⟩
  · injection h1 with _ _ h3
    exact ⟨by omega, by rw [h3]; exact Nat.zero_le _⟩
  · injection hv with _ _ h5
    subst h5
    exact ⟨h3, h4⟩

/-- 'append' of one number to such a slice. -/
theorem wpList_append_num {P : Program} {Q : Exit → Act → World → Prop} {ops : Array Oper} {rest : List Oper} {o : Oper} {a : Act} (hgd : Region.wanted o (yielded ops a.tmps) = true) (s x : Operand) (t : TypeId)
    (ho : o.op = .call { callee := .builtin .append, args := #[s, x], argTypes := #[t, t] })
    (i : TypeInfo) (bytes : Nat) (ht : P.underlying t = some (.slice E)) (hi : P.info? E = some i) (hz : i.zero = some (.int k 0)) (hsize : i.size = 1) (hby : i.bytes = bytes) (hb8 : bytes ≤ 8)
    (n : Nat) (hn : l.length = n) (hs : a.eval s = .slice A n c) (hown : OwnN k E base w A c l)
    (ad : Addr) (cc : Nat) (x0 : Int) (hx : a.eval x = .slice (some ad) 1 cc) (hcell : w.cell? ad = some (.int k x0)) (hlen : l.length < 17592186044415)
    (B : Nat) (W0 : World) (hB : B ≤ base) (hbelow : Below B W0 w)
    (h : ∀ A' c' w', OwnN k E base w' A' c' (l ++ [x0]) → Below B W0 w' → wpList P ops Q rest (a.put o.dst (.slice A' (n + 1) c')) w') : wpList P ops Q (o :: rest) a w := by
  subst hn
  refine BigFrame.wpList_want hgd fun K hK => wp_append_own w s x t ho base E i (.int k 0) 1 bytes ht hi hz hsize hby rfl (by decide) _ _ _ hs hown.1 ad 1 cc [.int k x0] hx rfl ?_ ?_ ?_ ?_ hown.2 ?_
  · intro j u hj
    match j, hj with
    | 0, hj =>
      simp at hj; subst hj
      simpa [Addr.add] using hcell
  · intro u hu
    simp at hu; subst hu; rfl
  · unfold maxLen; omega
  · have : (l.length + 1) * bytes ≤ (l.length + 1) * 8 := Nat.mul_le_mul_left _ hb8
    omega
  · intro v' w1 hown' hgrow _
    have hlen1 : (l ++ [x0]).length = l.length + 1 := by simp
    have hsz : w.heap.size ≤ w1.heap.size := hgrow.size
    have hb1 : Below B W0 w1 := hbelow.grown hgrow (by have := hown.2; omega) (fun g hg => by have := (hown.1.lt g hg).1; omega)
    rcases hown'.2 with ⟨_, h0⟩ | ⟨g, cap, cur, hv, h1, h2, h3, h4, h5, h6⟩
    · omega
    · subst hv
      rw [← hlen1] at hown'
      have hfin : OwnN k E base w1 (some ⟨g, 0, none⟩) cap (l ++ [x0]) := ⟨by rw [List.map_append, hlen1]; rw [hlen1] at hown'; exact hown', by have := hown.2; omega⟩
      exact hK _ _ (h (some ⟨g, 0, none⟩) cap w1 hfin hb1)
end

/-- A slice of numbers that comes in. -/
theorem open_nums {H : Type} {enc : TypeId × Value → H} {P : Program} {W : World} {t e : TypeId} {k : IntKind} {base : Nat} {v : Value} {d : DataW H} {ps : List MemPlace}
    (ht : P.underlying t = some (.slice e)) (he : P.underlying e = some (.int k)) (hc : P.cellsOf e = 1)
    (hval : Value.okWide P W .any base t v) (h : DataW.Trod enc P W 0 (fun _ => true) true t v d ps) :
    ∃ (A : Option Addr) (n cap : Nat) (zs : List Int), v = .slice A n cap ∧ n ≤ cap ∧ cap ≤ maxLen ∧ zs.length = n ∧ Nums k W A zs ∧ (∀ z ∈ zs, (Lit.int k z).wf = true) := by
  obtain ⟨a0, len, cap, rfl⟩ := okWide_slice ht hval
  obtain ⟨fuel, hf⟩ := h
  rcases open_ints ht he hc hf with ⟨hcs, hx⟩ | ⟨a, len', cap', zs, hcs, _, hl, hm, hz, hx, hcell, hwz⟩
  · simp [Value.cells] at hcs
    obtain ⟨rfl, rfl, rfl⟩ := hcs
    exact ⟨none, 0, 0, [], rfl, Nat.le_refl _, Nat.zero_le _, rfl, Or.inl rfl, by simp⟩
  · simp [Value.cells] at hcs
    obtain ⟨rfl, rfl, rfl⟩ := hcs
    simp only [if_true] at hz
    have hlen : (zs.take len).length = len := by rw [List.length_take]; omega
    refine ⟨some a, len, cap, zs.take len, rfl, hl, hm, hlen, ?_, fun z hz => hwz z (List.mem_of_mem_take hz)⟩
    by_cases h0 : len = 0
    · exact Or.inl (List.eq_nil_of_length_eq_zero (by omega))
    · obtain ⟨b, off, spot⟩ := a
      have hspot : spot = none := by simpa [Addr.add] using World.cell?_spot (hcell 0 (by omega))
      subst hspot
      refine Or.inr ⟨b, off, rfl, World.block_lt_of_cell? W ⟨b, off, none⟩ (u := .int k (zs.getD 0 0)) (by simpa [Addr.add] using hcell 0 (by omega)), fun i hi => ?_⟩
      have hi' : i < len := by omega
      rw [← add_plain, hcell i (by omega)]
      simp [List.getD, hi']
end Go.Proofs.YtpglhkjgcahdbaaDoor
