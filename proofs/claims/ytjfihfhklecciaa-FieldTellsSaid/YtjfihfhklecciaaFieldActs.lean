/- A row of pairs of numbers that comes in. -/
import Derived.Test.YtjfihfhklecciaaField2
import Derived.Test.YtjfihfhklecciaaFieldMath2
import Derived.Deep.SlicePairs
namespace Go.Proofs.Ytjfihfhklecciaa
open Go.ChangeShapes Go.WideShapes Go.ChangeAt Go.RowKit

/-- The cells of a row of n pairs. -/
def Acts (w : World) (A : Option Addr) (n : Nat) (D N : Nat → Int) : Prop :=
  n = 0 ∨ ∃ b off, A = some ⟨b, off, none⟩ ∧ b < w.heap.size ∧ ∀ i, i < n → w.cell? ⟨b, off + i * 2, none⟩ = some (.int .i64 (D i)) ∧ w.cell? ⟨b, off + i * 2 + 1, none⟩ = some (.int .i64 (N i)) ∧ -9223372036854775808 ≤ N i ∧ N i ≤ 9223372036854775807
def numOf : Value → Int
  | .int _ z => z
  | _ => 0
theorem wf64 {z : Int} (h : (Lit.int .i64 z).wf = true) : -9223372036854775808 ≤ z ∧ z ≤ 9223372036854775807 := by
  simpa [Lit.wf, IntKind.min, IntKind.max, IntKind.signed, IntKind.bits] using h
theorem open_acts {H : Type} {enc : TypeId × Value → H} {W : World} {base : Nat} {v : Value} {d : DataW H} {ps : List MemPlace}
    (hval : Value.okWide Try.prog W .any base 23 v) (h : DataW.Trod enc Try.prog W 0 (fun _ => true) true 23 v d ps) :
    ∃ (A : Option Addr) (n cap : Nat) (D N : Nat → Int), v = .slice A n cap ∧ n ≤ cap ∧ cap ≤ maxLen ∧ Acts W A n D N := by
  obtain ⟨a0, len, cap, rfl⟩ := okWide_slice Try.underlying23 hval
  obtain ⟨fuel, hf⟩ := h
  rcases Deep.open_slice_pairs Try.underlying23 Try.underlying31 (by kernel_rfl) rfl rfl (by kernel_rfl) (by kernel_rfl) hf with ⟨hcs, hx⟩ | ⟨a, len', cap', m, n, V0, V1, D0, D1, P0, P1, hcs, _, hl, hm, hmm, hx, hall⟩
  · simp [Value.cells] at hcs
    obtain ⟨rfl, rfl, rfl⟩ := hcs
    exact ⟨none, 0, 0, fun _ => 0, fun _ => 0, rfl, Nat.le_refl _, Nat.zero_le _, Or.inl rfl⟩
  · simp [Value.cells] at hcs
    obtain ⟨rfl, rfl, rfl⟩ := hcs
    simp only [if_true] at hmm
    subst hmm
    refine ⟨some a, len, m, fun i => numOf (V0 i), fun i => numOf (V1 i), rfl, hl, hm, ?_⟩
    by_cases h0 : len = 0
    · exact Or.inl h0
    · obtain ⟨b, off, spot⟩ := a
      have hspot : spot = none := by simpa [Addr.add] using World.cell?_spot (hall 0 (by omega)).1
      subst hspot
      refine Or.inr ⟨b, off, rfl, World.block_lt_of_cell? W ⟨b, off, none⟩ (u := V0 0) (by simpa [Addr.add] using (hall 0 (by omega)).1), fun i hi => ?_⟩
      obtain ⟨g0, g1, t0, t1⟩ := hall i (by omega)
      obtain ⟨z0, c0, -, -⟩ := DataW.trod_int Try.underlying3 t0
      obtain ⟨z1, c1, -, w1⟩ := DataW.trod_int Try.underlying3 t1
      simp only [List.cons.injEq, and_true] at c0 c1
      rw [add_plain] at g0
      have g1' : W.cell? ⟨b, off + i * 2 + 1, none⟩ = some (V1 i) := by
        rw [← g1, add_plain]
        rfl
      rw [c0] at g0
      rw [c1] at g1'
      refine ⟨by rw [g0]; show _ = some (Value.int .i64 (numOf (V0 i))); rw [c0]; rfl, by rw [g1']; show _ = some (Value.int .i64 (numOf (V1 i))); rw [c1]; rfl, ?_⟩
      show _ ≤ numOf (V1 i) ∧ numOf (V1 i) ≤ _
      rw [c1]
      exact wf64 w1
end Go.Proofs.Ytjfihfhklecciaa
