/- More of the digest's words. No program in it. -/
import Derived.Test.YthppbklbamakcaaDoorShaMath
namespace Go.Proofs.YthppbklbamakcaaDoor
namespace Sha
theorem word_or (a b c d : Int) : word a b c d = BitVec.ofInt 32 a <<< (24 : Nat) ||| BitVec.ofInt 32 b <<< (16 : Nat) ||| BitVec.ofInt 32 c <<< (8 : Nat) ||| BitVec.ofInt 32 d := by
  unfold word
  simp only [BitVec.shiftLeft_or_distrib, ← BitVec.shiftLeft_add]
theorem shl_u (x : W) (n : Nat) (p : Int) (hp : p = 2 ^ n) : u x * p % (4294967296 : Int) = u (x <<< n) := by
  subst hp
  have := u_shl x n
  rwa [IntKind.wrap_u32] at this
theorem plus_comm (s t : St) : plus s t = plus t s := by simp only [plus, BitVec.add_comm]
end Sha
end Go.Proofs.YthppbklbamakcaaDoor
