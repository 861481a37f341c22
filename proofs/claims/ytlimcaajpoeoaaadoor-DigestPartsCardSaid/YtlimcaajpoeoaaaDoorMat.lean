/- A slice of slices of numbers that comes in. No program in it. -/
import Derived.Test.YtlimcaajpoeoaaaDoorMem
import Derived.Deep.Matrix
namespace Go.Proofs.YtlimcaajpoeoaaaDoor
open Go.ChangeShapes Go.WideShapes Go.ChangeAt Go.RowKit
/-- The rows of a slice of slices of numbers, as far as it is long. -/
def Mat (k : IntKind) (w : World) (A : Option Addr) (n : Nat) (R : Nat → Option Addr) (C : Nat → Nat) (Z : Nat → List Int) : Prop :=
  n = 0 ∨ ∃ b off, A = some ⟨b, off, none⟩ ∧ b < w.heap.size ∧ ∀ r, r < n → w.cell? ⟨b, off + r, none⟩ = some (.slice (R r) (Z r).length (C r)) ∧ Nums k w (R r) (Z r) ∧ (Z r).length ≤ C r ∧ C r ≤ maxLen ∧ (∀ z ∈ Z r, (Lit.int k z).wf = true) ∧ (0 < (Z r).length → ∀ a, R r = some a → a.block < w.heap.size)
theorem open_mat {H : Type} {enc : TypeId × Value → H} {P : Program} {W : World} {t e q : TypeId} {k : IntKind} {base : Nat} {v : Value} {d : DataW H} {ps : List MemPlace}
    (ht : P.underlying t = some (.slice e)) (he : P.underlying e = some (.slice q)) (hq : P.underlying q = some (.int k)) (ce : P.cellsOf e = 1) (cq : P.cellsOf q = 1)
    (hval : Value.okWide P W .any base t v) (h : DataW.Trod enc P W 0 (fun _ => true) true t v d ps) :
    ∃ (A : Option Addr) (n cap : Nat) (R : Nat → Option Addr) (C : Nat → Nat) (Z : Nat → List Int), v = .slice A n cap ∧ n ≤ cap ∧ cap ≤ maxLen ∧ Mat k W A n R C Z := by
  obtain ⟨a0, len, cap, rfl⟩ := okWide_slice ht hval
  obtain ⟨fuel, hf⟩ := h
  rcases Deep.open_int_rows ht he hq ce cq hf with ⟨hcs, hx⟩ | ⟨a, len', cap', A, L, C, Z, hcs, _, hl, hm, hx, hr⟩
  · simp [Value.cells] at hcs
    obtain ⟨rfl, rfl, rfl⟩ := hcs
    exact ⟨none, 0, 0, fun _ => none, fun _ => 0, fun _ => [], rfl, Nat.le_refl _, Nat.zero_le _, Or.inl rfl⟩
  · simp [Value.cells] at hcs
    obtain ⟨rfl, rfl, rfl⟩ := hcs
    refine ⟨some a, len, cap, A, C, fun r => (Z r).take (L r), rfl, hl, hm, ?_⟩
    by_cases h0 : len = 0
    · exact Or.inl h0
    · obtain ⟨b, off, spot⟩ := a
      have hspot : spot = none := by simpa [Addr.add] using World.cell?_spot (hr 0 (by omega)).1
      subst hspot
      refine Or.inr ⟨b, off, rfl, World.block_lt_of_cell? W ⟨b, off, none⟩ (u := .slice (A 0) (L 0) (C 0)) (by simpa [Addr.add] using (hr 0 (by omega)).1), fun r hr' => ?_⟩
      obtain ⟨h1, h2, h3, h4, h5, h6, h7⟩ := hr r (by omega)
      have hlen : ((Z r).take (L r)).length = L r := by rw [List.length_take]; omega
      have hbl : 0 < L r → ∀ a', A r = some a' → a'.block < W.heap.size := fun hL a' ha => by
        have hc := (h7 a' ha).2 0 (by omega)
        rcases a' with ⟨b', off', spot'⟩
        have hsp : spot' = none := by simpa [Addr.add] using World.cell?_spot hc
        subst hsp
        exact World.block_lt_of_cell? W ⟨b', off', none⟩ (u := .int k ((Z r).getD 0 0)) (by simpa [Addr.add] using hc)
      refine ⟨?_, ?_, by rw [hlen]; exact h2, h3, fun z hz => h5 z (List.mem_of_mem_take hz), by rw [hlen]; exact hbl⟩
      · rw [hlen, ← add_plain]; exact h1
      · by_cases hL : L r = 0
        · exact Or.inl (List.eq_nil_of_length_eq_zero (hlen.trans hL))
        · cases hA : A r with
          | none => have := h6 hA; omega
          | some a' =>
            have hc := h7 a' hA
            have hb' := hbl (by omega) a' hA
            rcases a' with ⟨b', off', spot'⟩
            have hsp : spot' = none := by simpa [Addr.add] using World.cell?_spot (hc.2 0 (by omega))
            subst hsp
            refine Or.inr ⟨b', off', rfl, hb', fun i hi => ?_⟩
            rw [hlen] at hi
            rw [← add_plain, hc.2 i (by omega)]
            have h9 : i < (Z r).length := by omega
            simp [List.getD, hi]
end Go.Proofs.YtlimcaajpoeoaaaDoor
