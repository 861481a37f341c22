/- Rows of structs of whole numbers, m cells an element, as one flat list of numbers: of the call's own, append, what is cut out of them. No program in it. -/
import Derived.Test.YtiecebncnflpiaaMem2
import Derived.Deep.RegionLaw
import Derived.Lib.SlicesDelete
import Derived.Laws.IdiomCopy
namespace Go.Proofs.Ytiecebncnflpiaa
open Go.ChangeShapes Go.WideShapes Go.ChangeAt Go.RowKit

def OwnR (m : Nat) (E : TypeId) (base : Nat) (w : World) (A : Option Addr) (n c : Nat) (zs : List Int) : Prop :=
  w.ownsRow base E m (.slice A n c) n (zs.map (Value.int .i64)) ∧ base ≤ w.heap.size
section
variable {w w' : World} {A : Option Addr} {zs : List Int} {E : TypeId} {base m n c : Nat}
theorem OwnR.nil (h : base ≤ w.heap.size) : OwnR m E base w none 0 0 [] := ⟨⟨by simp, Or.inl ⟨rfl, rfl⟩⟩, h⟩
theorem OwnR.zlen (h : OwnR m E base w A n c zs) : zs.length = n * m := by simpa using h.1.1
theorem OwnR.len (h : OwnR m E base w A n c zs) : n ≤ c ∧ c ≤ maxLen := by
  rcases h.1.2 with ⟨h1, h2⟩ | ⟨g, cap, cur, hv, _, _, h3, h4, _⟩
  · injection h1 with _ _ h3
    exact ⟨by omega, by rw [h3]; exact Nat.zero_le _⟩
  · injection hv with _ _ h5
    subst h5
    exact ⟨h3, h4⟩
theorem OwnR.lower {b2 : Nat} (h : OwnR m E base w A n c zs) (hb : b2 ≤ base) : OwnR m E b2 w A n c zs := by
  refine ⟨⟨h.1.1, ?_⟩, by have := h.2; omega⟩
  rcases h.1.2 with h1 | ⟨g, cap, cur, hv, hg, r⟩
  · exact Or.inl h1
  · exact Or.inr ⟨g, cap, cur, hv, by omega, r⟩
theorem OwnR.below (h : OwnR m E base w A n c zs) (hb : Below w.heap.size w w') : OwnR m E base w' A n c zs := by
  refine ⟨⟨h.1.1, ?_⟩, Nat.le_trans h.2 hb.size⟩
  rcases h.1.2 with h1 | ⟨g, cap, cur, hv, hg, hh, r⟩
  · exact Or.inl h1
  · exact Or.inr ⟨g, cap, cur, hv, hg, (hb.block g (row_lt hh)).trans hh, r⟩
theorem OwnR.drewN (h : OwnR m E base w A n c zs) (q : Nat) : OwnR m E base (w.drewN q) A n c zs := h
theorem OwnR.at0 (h : OwnR m E base w A n c zs) (hn : 0 < n) : ∃ g cur, A = some ⟨g, 0, none⟩ ∧ base ≤ g ∧ w.heap[g]? = some (.cells cur E) ∧ cur.size = c * m ∧ cur.toList.take (n * m) = zs.map (Value.int .i64) := by
  rcases h.1.2 with ⟨_, h2⟩ | ⟨g, cap, cur, hv, hg, hh, h3, h4, h5, h6⟩
  · omega
  · injection hv with e1 _ e3
    subst e3
    exact ⟨g, cur, e1, hg, hh, h5, h6⟩
theorem OwnR.of_row {g : Nat} {cur : Array Value} (hg : base ≤ g) (hh : w.heap[g]? = some (.cells cur E)) (hn : n ≤ c) (hc : c ≤ maxLen) (hs : cur.size = c * m) (ht : cur.toList.take (n * m) = zs.map (Value.int .i64)) (hz : zs.length = n * m) : OwnR m E base w (some ⟨g, 0, none⟩) n c zs :=
  ⟨⟨by simpa using hz, Or.inr ⟨g, c, cur, rfl, hg, hh, hn, hc, hs, ht⟩⟩, by have := row_lt hh; omega⟩
theorem OwnR.nums (h : OwnR m E base w A n c zs) : Nums .i64 w A zs := by
  by_cases h0 : n = 0
  · have := h.zlen
    subst h0
    exact Or.inl (List.eq_nil_of_length_eq_zero (by rw [this, Nat.zero_mul]))
  · obtain ⟨g, cur, rfl, _, hh, _, ht⟩ := h.at0 (by omega)
    refine Or.inr ⟨g, 0, rfl, row_lt hh, fun i hi => ?_⟩
    rw [Nat.zero_add, cell_of_row _ _ _ _ _ _ hh]
    have h2 : (cur.toList.take (n * m))[i]? = some (.int .i64 (zs.getD i 0)) := by rw [ht]; simp [List.getD, hi]
    rw [List.getElem?_take] at h2
    split at h2
    · simpa using h2
    · cases h2
theorem OwnR.block' {a : Addr} (h : OwnR m E base w A n c zs) (hA : A = some a) : base ≤ a.block ∧ a.block < w.heap.size := by
  subst hA
  rcases h.1.2 with ⟨h1, _⟩ | ⟨g, cap, cur, hv, hb, hh, _⟩
  · cases h1
  · injection hv with hA
    injection hA with hA
    subst hA
    exact ⟨hb, row_lt hh⟩
/-- A row that is written out. -/
theorem OwnR.lit (cs : Array Value) (hb : base ≤ w.heap.size) (hm : n ≤ maxLen) (hs : zs.length = n * m) (hcs : cs = (zs.map (Value.int .i64)).toArray) : OwnR m E base (w.alloc (.cells cs E)) (some ⟨w.heap.size, 0, none⟩) n n zs := by
  subst hcs
  refine OwnR.of_row hb (MapKept.heap_alloc w _).1 (Nat.le_refl _) hm (by simpa using hs) ?_ hs
  rw [List.take_of_length_le (by simp; omega)]

/-- 'append' of a row that lies anywhere. -/
theorem wp_append_recs {P : Program} {Q : Exit → Act → World → Prop} {K : Act → World → Prop} {o : Oper} {a : Act} (s x : Operand) (t : TypeId)
    (ho : o.op = .call { callee := .builtin .append, args := #[s, x], argTypes := #[t, t] })
    (i : TypeInfo) (z : Value) (bytes : Nat) (ht : P.underlying t = some (.slice E)) (hi : P.info? E = some i) (hz : i.zero = some z) (hsize : i.size = m) (hby : i.bytes = bytes) (hb8 : bytes ≤ 64) (hzs : z.cells.size = m) (hm : 0 < m)
    (hs : a.eval s = .slice A n c) (hown : OwnR m E base w A n c zs)
    (ad : Addr) (k cc : Nat) (xs : List Int) (hx : a.eval x = .slice (some ad) k cc) (hk : xs.length = k * m) (hcell : Nums .i64 w (some ad) xs) (hlen : n + k < 1099511627776)
    (B : Nat) (W0 : World) (hB : B ≤ base) (hbelow : Below B W0 w)
    (h : ∀ A' c' w', OwnR m E base w' A' (n + k) c' (zs ++ xs) → Below B W0 w' → K (a.put o.dst (.slice A' (n + k) c')) w') : o.wp P a w K Q := by
  refine wp_append_own w s x t ho base E i z m bytes ht hi hz hsize hby hzs hm _ _ _ hs hown.1 ad k cc (xs.map (Value.int .i64)) hx (by simpa using hk) ?_ ?_ ?_ ?_ hown.2 ?_
  · intro j u hj
    have hj' : j < xs.length := by
      have := (List.getElem?_eq_some_iff.1 hj).1
      simpa using this
    rcases hcell with h0 | ⟨b', off, h1, h2, h3⟩
    · rw [h0] at hj'; cases hj'
    · injection h1 with h1
      subst h1
      have e : Value.int .i64 (xs.getD j 0) = u := by simpa [List.getD, hj'] using hj
      rw [← e, add_plain]
      exact h3 j hj'
  · intro u hu
    simp only [List.mem_map] at hu
    obtain ⟨y, _, rfl⟩ := hu
    rfl
  · unfold maxLen; omega
  · have : (n + k) * bytes ≤ (n + k) * 64 := Nat.mul_le_mul_left _ hb8
    omega
  · intro v' w1 hown' hgrow _
    have hsz : w.heap.size ≤ w1.heap.size := hgrow.size
    have hb1 : Below B W0 w1 := hbelow.grown hgrow (by have := hown.2; omega) (fun g hg => by have := (hown.1.lt g hg).1; omega)
    have hb2 : base ≤ w1.heap.size := by have := hown.2; omega
    rw [← List.map_append] at hown'
    rcases hown'.2 with ⟨h1, h0⟩ | ⟨g, cap, cur, hv, r⟩
    · subst h1
      have e1 : n = 0 := by omega
      have e2 : k = 0 := by omega
      have e3 : (zs ++ xs).length = 0 := by rw [List.length_append, hown.zlen, hk, e1, e2]; simp
      have := h none 0 w1 (by rw [h0, List.eq_nil_of_length_eq_zero e3]; exact OwnR.nil hb2) hb1
      rw [h0] at this
      exact h0 ▸ this
    · subst hv
      exact h (some ⟨g, 0, none⟩) cap w1 ⟨hown', hb2⟩ hb1
theorem wpList_append_recs {P : Program} {Q : Exit → Act → World → Prop} {ops : Array Oper} {rest : List Oper} {o : Oper} {a : Act} (hgd : Region.wanted o (yielded ops a.tmps) = true) (s x : Operand) (t : TypeId)
    (ho : o.op = .call { callee := .builtin .append, args := #[s, x], argTypes := #[t, t] })
    (i : TypeInfo) (z : Value) (bytes : Nat) (ht : P.underlying t = some (.slice E)) (hi : P.info? E = some i) (hz : i.zero = some z) (hsize : i.size = m) (hby : i.bytes = bytes) (hb8 : bytes ≤ 64) (hzs : z.cells.size = m) (hm : 0 < m)
    (hs : a.eval s = .slice A n c) (hown : OwnR m E base w A n c zs)
    (ad : Addr) (k cc : Nat) (xs : List Int) (hx : a.eval x = .slice (some ad) k cc) (hk : xs.length = k * m) (hcell : Nums .i64 w (some ad) xs) (hlen : n + k < 1099511627776)
    (B : Nat) (W0 : World) (hB : B ≤ base) (hbelow : Below B W0 w)
    (h : ∀ A' c' w', OwnR m E base w' A' (n + k) c' (zs ++ xs) → Below B W0 w' → wpList P ops Q rest (a.put o.dst (.slice A' (n + k) c')) w') : wpList P ops Q (o :: rest) a w :=
  BigFrame.wpList_want hgd fun _ hK => wp_append_recs s x t ho i z bytes ht hi hz hsize hby hb8 hzs hm hs hown ad k cc xs hx hk hcell hlen B W0 hB hbelow fun A' c' w' h1 h2 => hK _ _ (h A' c' w' h1 h2)

/-- Cells of one known block written one behind the other. -/
theorem setCells_row {g : Nat} : ∀ (vs : List Value) (o : Nat) (w : World) (cs : Array Value), w.heap[g]? = some (.cells cs E) → w.setCells g o vs = setRow w g E (Lib.lay cs o vs)
  | [], o, w, cs, h => by
    show w = setRow w g E cs
    refine world_eq (fun k => ?_) rfl rfl rfl rfl
    rw [setRow_heap]
    by_cases hk : k = g
    · subst hk
      rw [if_pos ⟨rfl, row_lt h⟩]
      exact h
    · rw [if_neg (by omega)]
  | v :: r, o, w, cs, h => by
    rw [World.setCells, setCell_row h, setCells_row r (o + 1) _ _ (setRow_row (row_lt h)), setRow_twice]
    rfl
end
end Go.Proofs.Ytiecebncnflpiaa
