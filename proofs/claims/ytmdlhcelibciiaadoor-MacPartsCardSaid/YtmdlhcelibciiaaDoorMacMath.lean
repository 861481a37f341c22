/- The digest by a key as a plain function. No program in it. -/
import Derived.Test.YtmdlhcelibciiaaDoorShaMath
namespace Go.Proofs.YtmdlhcelibciiaaDoor
namespace Mac
open Sha
def pad64 (l : List Int) : List Int := l ++ List.replicate (64 - l.length) 0
def blk (key : List Int) : List Int := pad64 (if 64 < key.length then sha key else key)
def xor8 (a b : Int) : Int := bits .xor .u8 a b
def mask (l : List Int) (m : Int) : List Int := l.map fun x => xor8 x m
def hmac (key msg : List Int) : List Int := sha (mask (blk key) 92 ++ sha (mask (blk key) 54 ++ msg))
theorem xor8_bd (a b : Int) : 0 ≤ xor8 a b ∧ xor8 a b < 256 := by
  unfold xor8
  show 0 ≤ IntKind.u8.wrap _ ∧ IntKind.u8.wrap _ < 256
  rw [IntKind.wrap_u8]; omega
theorem len_pad64 (l : List Int) (h : l.length ≤ 64) : (pad64 l).length = 64 := by
  rw [pad64, List.length_append, List.length_replicate]; omega
theorem len_sha (l : List Int) : (sha l).length = 32 := len_lay _
theorem len_blk (key : List Int) : (blk key).length = 64 := by
  unfold blk
  split
  · exact len_pad64 _ (by rw [len_sha]; omega)
  · exact len_pad64 _ (by omega)
theorem len_mask (l : List Int) (m : Int) : (mask l m).length = l.length := by simp [mask]
theorem mask_wf (l : List Int) (m : Int) : ∀ z ∈ mask l m, 0 ≤ z ∧ z < 256 := by
  intro z hz
  simp only [mask, List.mem_map] at hz
  obtain ⟨x, _, rfl⟩ := hz
  exact xor8_bd x m
theorem byte_bd (x : W) (n : Nat) : 0 ≤ byte x n ∧ byte x n < 256 := by unfold byte; omega
theorem sha_wf (l : List Int) : ∀ z ∈ sha l, 0 ≤ z ∧ z < 256 := by
  intro z hz
  simp only [sha, lay, List.mem_map] at hz
  obtain ⟨i, _, rfl⟩ := hz
  exact byte_bd _ _
theorem app_wf {a b : List Int} (ha : ∀ z ∈ a, 0 ≤ z ∧ z < 256) (hb : ∀ z ∈ b, 0 ≤ z ∧ z < 256) : ∀ z ∈ a ++ b, 0 ≤ z ∧ z < 256 := by
  intro z hz
  rcases List.mem_append.1 hz with h | h
  · exact ha z h
  · exact hb z h
theorem mask_at (l : List Int) (m : Int) (i : Nat) (h : i < l.length) : (mask l m).getD i 0 = xor8 (l.getD i 0) m := by
  simp [mask, List.getD, h]
theorem hmac_len (key msg : List Int) : (hmac key msg).length = 32 := len_sha _
end Mac
end Go.Proofs.YtmdlhcelibciiaaDoor
