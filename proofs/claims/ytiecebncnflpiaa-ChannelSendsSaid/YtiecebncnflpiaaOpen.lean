/- Slices and structs of whole numbers, however deep, that come in: as rows of numbers. No program in it. -/
import Derived.Test.YtiecebncnflpiaaMem
import Derived.Deep.Slices
import Derived.Deep.Fields
import Derived.ChangeSame
import Derived.Lib.SmallJoins
namespace Go.Proofs.Ytiecebncnflpiaa
open Go.ChangeShapes Go.WideShapes Go.ChangeAt Go.RowKit Go.Deep
/-- Is each cell of the type a whole number? -/
def allInts (P : Program) : Nat → TypeId → Bool
  | 0, _ => false
  | f + 1, t => match P.underlying t with
    | some (.int .i64) => P.cellsOf t == 1
    | some (.struct fs) => fs.toList.all (fun x => allInts P f x.type) && (List.range (P.cellsOf t)).all fun i => fs.toList.any fun x => decide (x.offset ≤ i ∧ i < x.offset + P.cellsOf x.type)
    | _ => false
section
variable {H : Type} {enc : TypeId × Value → H} {P : Program} {w : World} {base : Nat} {spare : Nat → Bool} {held : Bool}
theorem trod_ints : ∀ (n : Nat) (t : TypeId), allInts P n t = true → ∀ (fuel : Nat) (cs : List Value) (x : DataW H × List MemPlace), DataW.trod enc P w base spare held fuel t cs = some x → cs.length = P.cellsOf t ∧ ∀ i, i < cs.length → ∃ z, cs[i]? = some (.int .i64 z) ∧ (Lit.int .i64 z).wf = true
  | 0, _, h, _, _, _, _ => by cases h
  | n + 1, t, h, fuel, cs, x, hx => by
    unfold allInts at h
    split at h
    · rename_i hu
      obtain ⟨z, rfl, -, hw⟩ := DataW.trod_int hu hx
      refine ⟨by simpa using (beq_iff_eq.1 h).symm, fun i hi => ?_⟩
      obtain rfl : i = 0 := by simpa using hi
      exact ⟨z, rfl, hw⟩
    · rename_i fs hu
      obtain ⟨ys, m, -, -, hl, hyl, hf⟩ := DataW.trod_struct hu hx
      refine ⟨hl, fun i hi => ?_⟩
      simp only [Bool.and_eq_true, List.all_eq_true, List.any_eq_true, List.mem_range, decide_eq_true_eq] at h
      obtain ⟨y, hy, h1, h2⟩ := h.2 i (by omega)
      obtain ⟨j, hj⟩ := List.mem_iff_getElem?.1 hy
      have hj' : fs[j]? = some y := by simpa using hj
      have hjl : j < fs.size := (Array.getElem?_eq_some_iff.1 hj').1
      have h3 := hf j y hj'
      have h4 : ys[j]? = some (ys[j]'(by omega)) := List.getElem?_eq_getElem (by omega)
      obtain ⟨hl2, hc⟩ := trod_ints n y.type (h.1 y hy) m _ _ (h3.trans h4)
      obtain ⟨z, hz, hw⟩ := hc (i - y.offset) (by omega)
      refine ⟨z, ?_, hw⟩
      rw [← hz, List.getElem?_take, if_pos (by omega), List.getElem?_drop]
      congr 1
      omega
    · cases h
theorem cellsOf_eq {P : Program} {a : Nat} {t : TypeId} (h : (P.cellsOf t == a) = true) : P.cellsOf t = a := by simpa using h

theorem wf64' {z : Int} (h : (Lit.int .i64 z).wf = true) : -9223372036854775808 ≤ z ∧ z ≤ 9223372036854775807 := by
  simpa [Lit.wf, IntKind.min, IntKind.max, IntKind.signed, IntKind.bits] using h

def numOf' : Value → Int
  | .int _ z => z
  | _ => 0

/-- A slice of such: as one row of numbers. -/
theorem open_recs {t e : TypeId} {m n : Nat} {fuel : Nat} {v : Value} {x : DataW H × List MemPlace} (ht : P.underlying t = some (.slice e)) (hA : allInts P n e = true) (hm : P.cellsOf e = m) (hm0 : 0 < m)
    (h : DataW.trod enc P w 0 (fun _ => true) true fuel t [v] = some x) :
    ∃ (A : Option Addr) (k cap : Nat) (zs : List Int), v = .slice A k cap ∧ k ≤ cap ∧ cap ≤ maxLen ∧ zs.length = k * m ∧ Nums .i64 w A zs ∧ ∀ z ∈ zs, (Lit.int .i64 z).wf = true := by
  rcases open_slice ht h with ⟨h0, -⟩ | ⟨a, len, cap, mm, q, D, Pl, hcs, hb, hl, hmx, hmm, hx, hi⟩
  · simp only [List.cons.injEq, and_true] at h0
    subst h0
    exact ⟨none, 0, 0, [], rfl, Nat.le_refl _, Nat.zero_le _, by simp, Or.inl rfl, by simp⟩
  · simp only [List.cons.injEq, and_true] at hcs
    subst hcs
    simp only [if_true] at hmm
    subst hmm
    have hcell : ∀ i, i < len * m → ∃ z, w.cell? (a.add i) = some (.int .i64 z) ∧ (Lit.int .i64 z).wf = true := fun i hi' => by
      have hq : i / m < len := Nat.div_lt_of_lt_mul (by rw [Nat.mul_comm]; exact hi')
      have hr : i % m < m := Nat.mod_lt _ hm0
      obtain ⟨cs', hc, ht'⟩ := hi (i / m) (by omega)
      rw [hm] at hc
      obtain ⟨-, hcl, hat⟩ := World.cells?_some hc
      obtain ⟨-, hz⟩ := trod_ints n e hA _ _ _ ht'
      obtain ⟨z, h1, h2⟩ := hz (i % m) (by omega)
      refine ⟨z, ?_, h2⟩
      rw [← h1, ← hat (i % m) hr, add_add]
      congr 2
      rw [Nat.mul_comm]; exact (Nat.div_add_mod i m).symm
    let zs : List Int := (List.range (len * m)).map fun i => numOf' ((w.cell? (a.add i)).getD (.bool false))
    have hzl : zs.length = len * m := by simp [zs]
    have hget : ∀ i, i < len * m → w.cell? (a.add i) = some (.int .i64 (zs.getD i 0)) ∧ (Lit.int .i64 (zs.getD i 0)).wf = true := fun i hi' => by
      obtain ⟨z, h1, h2⟩ := hcell i hi'
      have : zs.getD i 0 = z := by simp [zs, List.getD, hi', h1, numOf']
      rw [this]
      exact ⟨h1, h2⟩
    refine ⟨some a, len, mm, zs, rfl, hl, hmx, hzl, ?_, fun z hz => ?_⟩
    · by_cases h0 : len * m = 0
      · exact Or.inl (List.eq_nil_of_length_eq_zero (by omega))
      · obtain ⟨b, off, spot⟩ := a
        have hspot : spot = none := by simpa [Addr.add] using World.cell?_spot (hget 0 (by omega)).1
        subst hspot
        refine Or.inr ⟨b, off, rfl, World.block_lt_of_cell? w ⟨b, off, none⟩ (u := .int .i64 (zs.getD 0 0)) (by simpa [Addr.add] using (hget 0 (by omega)).1), fun i hi' => ?_⟩
        rw [← add_plain]
        exact (hget i (by omega)).1
    · obtain ⟨i, hi', rfl⟩ := List.mem_iff_getElem.1 hz
      have := (hget i (by omega)).2
      simpa [List.getD, hi'] using this
/-- A struct of such, by value: as its numbers. -/
theorem open_ints_val {t : TypeId} {m n : Nat} {fuel : Nat} {cs : List Value} {x : DataW H × List MemPlace} (hA : allInts P n t = true) (hm : P.cellsOf t = m)
    (h : DataW.trod enc P w base spare held fuel t cs = some x) : ∃ zs : List Int, zs.length = m ∧ cs = zs.map (Value.int .i64) ∧ ∀ z ∈ zs, (Lit.int .i64 z).wf = true := by
  obtain ⟨hl, hc⟩ := trod_ints n t hA _ _ _ h
  refine ⟨cs.map numOf', by rw [List.length_map, hl, hm], ?_, fun z hz => ?_⟩
  · apply List.ext_getElem?
    intro i
    rw [List.map_map]
    by_cases hi : i < cs.length
    · obtain ⟨z, h1, -⟩ := hc i hi
      rw [List.getElem?_map, h1]
      rfl
    · rw [List.getElem?_eq_none (by omega), List.getElem?_eq_none (by simp; omega)]
  · obtain ⟨i, hi, rfl⟩ := List.mem_iff_getElem.1 hz
    rw [List.length_map] at hi
    obtain ⟨z, h1, h2⟩ := hc i hi
    have : cs[i] = .int .i64 z := by rw [List.getElem?_eq_getElem hi] at h1; exact Option.some.inj h1
    rw [List.getElem_map, this]
    exact h2
end
end Go.Proofs.Ytiecebncnflpiaa
