/- 'append' of a row of structs of whole numbers, telling which block it writes. No program in it. -/
import Derived.Test.YtiecebncnflpiaaRecs
namespace Go.Proofs.Ytiecebncnflpiaa
open Go.ChangeShapes Go.WideShapes Go.ChangeAt Go.RowKit
section
variable {w w' : World} {A : Option Addr} {zs : List Int} {E : TypeId} {base m n c : Nat}
/-- 'append' of a row that lies anywhere. -/
theorem wp_append_recsG {P : Program} {Q : Exit → Act → World → Prop} {K : Act → World → Prop} {o : Oper} {a : Act} (s x : Operand) (t : TypeId)
    (ho : o.op = .call { callee := .builtin .append, args := #[s, x], argTypes := #[t, t] })
    (i : TypeInfo) (z : Value) (bytes : Nat) (ht : P.underlying t = some (.slice E)) (hi : P.info? E = some i) (hz : i.zero = some z) (hsize : i.size = m) (hby : i.bytes = bytes) (hb8 : bytes ≤ 64) (hzs : z.cells.size = m) (hm : 0 < m)
    (hs : a.eval s = .slice A n c) (hown : OwnR m E base w A n c zs)
    (ad : Addr) (k cc : Nat) (xs : List Int) (hx : a.eval x = .slice (some ad) k cc) (hk : xs.length = k * m) (hcell : Nums .i64 w (some ad) xs) (hlen : n + k < 1099511627776)
    (B : Nat) (W0 : World) (hB : B ≤ base) (hbelow : Below B W0 w)
    (h : ∀ A' c' w', OwnR m E base w' A' (n + k) c' (zs ++ xs) → Below B W0 w' → w.grownBy w' (A.map (·.block)) → K (a.put o.dst (.slice A' (n + k) c')) w') : o.wp P a w K Q := by
  refine wp_append_own w s x t ho base E i z m bytes ht hi hz hsize hby hzs hm _ _ _ hs hown.1 ad k cc (xs.map (Value.int .i64)) hx (by simpa using hk) ?_ ?_ ?_ ?_ hown.2 ?_
  · intro j u hj
    have hj' : j < xs.length := by
      have := (List.getElem?_eq_some_iff.1 hj).1
      simpa using this
    rcases hcell with h0 | ⟨b', off, h1, h2, h3⟩
    · rw [h0] at hj'; cases hj'
    · injection h1 with h1
      subst h1
      have e : Value.int .i64 (xs.getD j 0) = u := by simpa [List.getD, hj'] using hj
      rw [← e, add_plain]
      exact h3 j hj'
  · intro u hu
    simp only [List.mem_map] at hu
    obtain ⟨y, _, rfl⟩ := hu
    rfl
  · unfold maxLen; omega
  · have : (n + k) * bytes ≤ (n + k) * 64 := Nat.mul_le_mul_left _ hb8
    omega
  · intro v' w1 hown' hgrow _
    have hsz : w.heap.size ≤ w1.heap.size := hgrow.size
    have hb1 : Below B W0 w1 := hbelow.grown hgrow (by have := hown.2; omega) (fun g hg => by have := (hown.1.lt g hg).1; omega)
    have hb2 : base ≤ w1.heap.size := by have := hown.2; omega
    rw [← List.map_append] at hown'
    rcases hown'.2 with ⟨h1, h0⟩ | ⟨g, cap, cur, hv, r⟩
    · subst h1
      have e1 : n = 0 := by omega
      have e2 : k = 0 := by omega
      have e3 : (zs ++ xs).length = 0 := by rw [List.length_append, hown.zlen, hk, e1, e2]; simp
      have := h none 0 w1 (by rw [h0, List.eq_nil_of_length_eq_zero e3]; exact OwnR.nil hb2) hb1 (by cases A <;> exact hgrow)
      rw [h0] at this
      exact h0 ▸ this
    · subst hv
      exact h (some ⟨g, 0, none⟩) cap w1 ⟨hown', hb2⟩ hb1 (by cases A <;> exact hgrow)
theorem wpList_append_recsG {P : Program} {Q : Exit → Act → World → Prop} {ops : Array Oper} {rest : List Oper} {o : Oper} {a : Act} (hgd : Region.wanted o (yielded ops a.tmps) = true) (s x : Operand) (t : TypeId)
    (ho : o.op = .call { callee := .builtin .append, args := #[s, x], argTypes := #[t, t] })
    (i : TypeInfo) (z : Value) (bytes : Nat) (ht : P.underlying t = some (.slice E)) (hi : P.info? E = some i) (hz : i.zero = some z) (hsize : i.size = m) (hby : i.bytes = bytes) (hb8 : bytes ≤ 64) (hzs : z.cells.size = m) (hm : 0 < m)
    (hs : a.eval s = .slice A n c) (hown : OwnR m E base w A n c zs)
    (ad : Addr) (k cc : Nat) (xs : List Int) (hx : a.eval x = .slice (some ad) k cc) (hk : xs.length = k * m) (hcell : Nums .i64 w (some ad) xs) (hlen : n + k < 1099511627776)
    (B : Nat) (W0 : World) (hB : B ≤ base) (hbelow : Below B W0 w)
    (h : ∀ A' c' w', OwnR m E base w' A' (n + k) c' (zs ++ xs) → Below B W0 w' → w.grownBy w' (A.map (·.block)) → wpList P ops Q rest (a.put o.dst (.slice A' (n + k) c')) w') : wpList P ops Q (o :: rest) a w :=
  BigFrame.wpList_want hgd fun _ hK => wp_append_recsG s x t ho i z bytes ht hi hz hsize hby hb8 hzs hm hs hown ad k cc xs hx hk hcell hlen B W0 hB hbelow fun A' c' w' h1 h2 h3 => hK _ _ (h A' c' w' h1 h2 h3)

end
end Go.Proofs.Ytiecebncnflpiaa
