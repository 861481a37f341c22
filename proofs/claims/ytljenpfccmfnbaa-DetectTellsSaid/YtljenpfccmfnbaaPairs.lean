/- A row of pairs of numbers that comes in. No program in it. -/
import Derived.Test.YtljenpfccmfnbaaRecs
import Derived.Test.YtljenpfccmfnbaaFlat
import Derived.Deep.SlicePairs
namespace Go.Proofs.Ytljenpfccmfnbaa
open Go.ChangeShapes Go.WideShapes Go.ChangeAt Go.RowKit

def numOf : Value → Int
  | .int _ z => z
  | _ => 0
theorem wf64 {z : Int} (h : (Lit.int .i64 z).wf = true) : -9223372036854775808 ≤ z ∧ z ≤ 9223372036854775807 := by
  simpa [Lit.wf, IntKind.min, IntKind.max, IntKind.signed, IntKind.bits] using h
theorem pairs_at {w : World} {A : Option Addr} {l : List (Int × Int)} (h : Nums .i64 w A (flat l)) (hl : 0 < l.length) : ∃ b off, A = some ⟨b, off, none⟩ ∧ b < w.heap.size ∧ ∀ i, i < l.length → w.cell? ⟨b, off + i * 2, none⟩ = some (.int .i64 (l.getD i (0, 0)).1) ∧ w.cell? ⟨b, off + i * 2 + 1, none⟩ = some (.int .i64 (l.getD i (0, 0)).2) := by
  rcases h with h | ⟨b, off, hA, hb, hc⟩
  · have := flat_len l; rw [h] at this; simp at this; omega
  · refine ⟨b, off, hA, hb, fun i hi => ⟨?_, ?_⟩⟩
    · rw [hc (i * 2) (by rw [flat_len]; omega), flat_0]
    · rw [Nat.add_assoc, hc (i * 2 + 1) (by rw [flat_len]; omega), flat_1]
theorem open_pairs {H : Type} {enc : TypeId × Value → H} {P : Program} {W : World} {t e : TypeId} {f0 f1 : Field} {base : Nat} {v : Value} {d : DataW H} {ps : List MemPlace}
    (ht : P.underlying t = some (.slice e)) (he : P.underlying e = some (.struct #[f0, f1])) (ce : P.cellsOf e = 2) (o0 : f0.offset = 0) (o1 : f1.offset = 1) (c0 : P.cellsOf f0.type = 1) (c1 : P.cellsOf f1.type = 1)
    (i0 : P.underlying f0.type = some (.int .i64)) (i1 : P.underlying f1.type = some (.int .i64))
    (hval : Value.okWide P W .any base t v) (h : DataW.Trod enc P W 0 (fun _ => true) true t v d ps) :
    ∃ (A : Option Addr) (n cap : Nat) (l : List (Int × Int)), v = .slice A n cap ∧ n ≤ cap ∧ cap ≤ maxLen ∧ l.length = n ∧ Nums .i64 W A (flat l) ∧ (∀ p ∈ l, (-9223372036854775808 ≤ p.1 ∧ p.1 ≤ 9223372036854775807) ∧ -9223372036854775808 ≤ p.2 ∧ p.2 ≤ 9223372036854775807) := by
  obtain ⟨a0, len, cap, rfl⟩ := okWide_slice ht hval
  obtain ⟨fuel, hf⟩ := h
  rcases Deep.open_slice_pairs ht he ce o0 o1 c0 c1 hf with ⟨hcs, hx⟩ | ⟨a, len', cap', m, n, V0, V1, D0, D1, P0, P1, hcs, _, hl, hm, hmm, hx, hall⟩
  · simp [Value.cells] at hcs
    obtain ⟨rfl, rfl, rfl⟩ := hcs
    exact ⟨none, 0, 0, [], rfl, Nat.le_refl _, Nat.zero_le _, rfl, Or.inl rfl, by simp⟩
  · simp [Value.cells] at hcs
    obtain ⟨rfl, rfl, rfl⟩ := hcs
    simp only [if_true] at hmm
    subst hmm
    have hz : ∀ i, i < len → ∃ p : Int × Int, V0 i = .int .i64 p.1 ∧ V1 i = .int .i64 p.2 ∧ (-9223372036854775808 ≤ p.1 ∧ p.1 ≤ 9223372036854775807) ∧ -9223372036854775808 ≤ p.2 ∧ p.2 ≤ 9223372036854775807 := by
      intro i hi
      obtain ⟨_, _, t0, t1⟩ := hall i (by omega)
      obtain ⟨z0, e0, -, w0⟩ := DataW.trod_int i0 t0
      obtain ⟨z1, e1, -, w1⟩ := DataW.trod_int i1 t1
      simp only [List.cons.injEq, and_true] at e0 e1
      exact ⟨(z0, z1), e0, e1, wf64 w0, wf64 w1⟩
    have hlen : ((List.range len).map fun i => (numOf (V0 i), numOf (V1 i))).length = len := by simp
    refine ⟨some a, len, m, (List.range len).map fun i => (numOf (V0 i), numOf (V1 i)), rfl, hl, hm, hlen, ?_, ?_⟩
    · by_cases h0 : len = 0
      · subst h0
        exact Or.inl rfl
      · obtain ⟨b, off, spot⟩ := a
        have hspot : spot = none := by simpa [Addr.add] using World.cell?_spot (hall 0 (by omega)).1
        subst hspot
        refine Or.inr ⟨b, off, rfl, World.block_lt_of_cell? W ⟨b, off, none⟩ (u := V0 0) (by simpa [Addr.add] using (hall 0 (by omega)).1), fun i hi => ?_⟩
        rw [flat_len, hlen] at hi
        obtain ⟨g0, g1, _, _⟩ := hall (i / 2) (by omega)
        obtain ⟨p, e0, e1, _⟩ := hz (i / 2) (by omega)
        have hg : ((List.range len).map fun i => (numOf (V0 i), numOf (V1 i))).getD (i / 2) (0, 0) = p := by
          simp [List.getD, show i / 2 < len by omega, e0, e1, numOf]
        rcases Nat.mod_two_eq_zero_or_one i with hi2 | hi2
        · have ei : i = i / 2 * 2 := by omega
          rw [add_plain, ← ei, e0] at g0
          rw [g0]
          have := flat_0 ((List.range len).map fun i => (numOf (V0 i), numOf (V1 i))) (i / 2)
          rw [← ei, hg] at this
          rw [this]
        · have ei : i = i / 2 * 2 + 1 := by omega
          rw [show i / 2 * 2 + 1 = i from ei.symm, add_plain, e1] at g1
          rw [g1]
          have := flat_1 ((List.range len).map fun i => (numOf (V0 i), numOf (V1 i))) (i / 2)
          rw [← ei, hg] at this
          rw [this]
    · intro p hp
      simp only [List.mem_map, List.mem_range] at hp
      obtain ⟨i, hi, rfl⟩ := hp
      obtain ⟨q, e0, e1, hq⟩ := hz i hi
      rw [e0, e1]
      exact hq
end Go.Proofs.Ytljenpfccmfnbaa
