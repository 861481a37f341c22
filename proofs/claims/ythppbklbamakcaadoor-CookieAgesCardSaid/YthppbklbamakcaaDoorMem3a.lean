/- Append of one number as one operation of a region that draws. No program in it. -/
import Derived.Test.YthppbklbamakcaaDoorMem2
import Derived.Deep.RegionLaw
namespace Go.Proofs.YthppbklbamakcaaDoor
open Go.ChangeShapes Go.WideShapes Go.ChangeAt Go.RowKit
section
variable {k : IntKind} {w w' : World} {A : Option Addr} {l : List Int} {E : TypeId} {base c : Nat}
theorem wp_append_num {P : Program} {Q : Exit → Act → World → Prop} {K : Act → World → Prop} {o : Oper} {a : Act} (s x : Operand) (t : TypeId)
    (ho : o.op = .call { callee := .builtin .append, args := #[s, x], argTypes := #[t, t] })
    (i : TypeInfo) (bytes : Nat) (ht : P.underlying t = some (.slice E)) (hi : P.info? E = some i) (hz : i.zero = some (.int k 0)) (hsize : i.size = 1) (hby : i.bytes = bytes) (hb8 : bytes ≤ 8)
    (n : Nat) (hn : l.length = n) (hs : a.eval s = .slice A n c) (hown : OwnN k E base w A c l)
    (ad : Addr) (cc : Nat) (x0 : Int) (hx : a.eval x = .slice (some ad) 1 cc) (hcell : w.cell? ad = some (.int k x0)) (hlen : l.length < 17592186044415)
    (B : Nat) (W0 : World) (hB : B ≤ base) (hbelow : Below B W0 w)
    (h : ∀ A' c' w', OwnN k E base w' A' c' (l ++ [x0]) → Below B W0 w' → K (a.put o.dst (.slice A' (n + 1) c')) w') : o.wp P a w K Q := by
  subst hn
  refine wp_append_own w s x t ho base E i (.int k 0) 1 bytes ht hi hz hsize hby rfl (by decide) _ _ _ hs hown.1 ad 1 cc [.int k x0] hx rfl ?_ ?_ ?_ ?_ hown.2 ?_
  · intro j u hj
    match j, hj with
    | 0, hj =>
      simp at hj; subst hj
      simpa [Addr.add] using hcell
  · intro u hu
    simp at hu; subst hu; rfl
  · unfold maxLen; omega
  · have : (l.length + 1) * bytes ≤ (l.length + 1) * 8 := Nat.mul_le_mul_left _ hb8
    omega
  · intro v' w1 hown' hgrow _
    have hlen1 : (l ++ [x0]).length = l.length + 1 := by simp
    have hsz : w.heap.size ≤ w1.heap.size := hgrow.size
    have hb1 : Below B W0 w1 := hbelow.grown hgrow (by have := hown.2; omega) (fun g hg => by have := (hown.1.lt g hg).1; omega)
    rcases hown'.2 with ⟨_, h0⟩ | ⟨g, cap, cur, hv, h1, h2, h3, h4, h5, h6⟩
    · omega
    · subst hv
      rw [← hlen1] at hown'
      have hfin : OwnN k E base w1 (some ⟨g, 0, none⟩) cap (l ++ [x0]) := ⟨by rw [List.map_append, hlen1]; rw [hlen1] at hown'; exact hown', by have := hown.2; omega⟩
      exact h (some ⟨g, 0, none⟩) cap w1 hfin hb1
theorem step_append_num {P : Program} {ops : Array Oper} {F : Prop} {Q : Exit → Act → World → Prop} {K : Act → World → Prop} {o : Oper} {a : Act} (hgd : o.guard = none) (s x : Operand) (t : TypeId)
    (ho : o.op = .call { callee := .builtin .append, args := #[s, x], argTypes := #[t, t] })
    (i : TypeInfo) (bytes : Nat) (ht : P.underlying t = some (.slice E)) (hi : P.info? E = some i) (hz : i.zero = some (.int k 0)) (hsize : i.size = 1) (hby : i.bytes = bytes) (hb8 : bytes ≤ 8)
    (n : Nat) (hn : l.length = n) (hs : a.eval s = .slice A n c) (hown : OwnN k E base w A c l)
    (ad : Addr) (cc : Nat) (x0 : Int) (hx : a.eval x = .slice (some ad) 1 cc) (hcell : w.cell? ad = some (.int k x0)) (hlen : l.length < 17592186044415)
    (B : Nat) (W0 : World) (hB : B ≤ base) (hbelow : Below B W0 w)
    (h : ∀ A' c' w', OwnN k E base w' A' c' (l ++ [x0]) → Below B W0 w' → K (a.put o.dst (.slice A' (n + 1) c')) w') : if Region.wanted o (yielded ops a.tmps) = true then Oper.wp P o a w K Q else F := by
  have hw : Region.wanted o (yielded ops a.tmps) = true := by simp [Region.wanted, hgd]
  rw [if_pos hw]
  exact wp_append_num s x t ho i bytes ht hi hz hsize hby hb8 n hn hs hown ad cc x0 hx hcell hlen B W0 hB hbelow h
theorem OwnN.at0 (h : OwnN k E base w A c l) (hl : 0 < l.length) : ∃ b, A = some ⟨b, 0, none⟩ := by
  rcases h.1.2 with ⟨_, h0⟩ | ⟨g, cap, cur, hv, _⟩
  · omega
  · injection hv with hA
    exact ⟨g, hA⟩
theorem OwnN.block {b : Nat} (h : OwnN k E base w (some ⟨b, 0, none⟩) c l) : base ≤ b ∧ b < w.heap.size := by
  rcases h.1.2 with ⟨h1, _⟩ | ⟨g, cap, cur, hv, hb, hh, _⟩
  · cases h1
  · injection hv with hA
    injection hA with hA
    injection hA with hA
    subst hA
    refine ⟨hb, ?_⟩
    rcases Nat.lt_or_ge b w.heap.size with h1 | h1
    · exact h1
    · rw [Array.getElem?_eq_none h1] at hh; cases hh
end
end Go.Proofs.YthppbklbamakcaaDoor
