/- Append of a row of numbers that lies anywhere, to a slice of the call's own; a row of bytes as a text; one block of the caller's that a call writes. No program in it. -/
import Derived.Test.YtnfdfnkhjlkdhaaMem2
import Derived.Laws.BytesArg
import Derived.Laws.IdiomStrings
namespace Go.Proofs.Ytnfdfnkhjlkdhaa
open Go.ChangeShapes Go.WideShapes Go.ChangeAt Go.RowKit
section
variable {k : IntKind} {w w' : World} {A : Option Addr} {l : List Int} {E : TypeId} {base c : Nat}
theorem alloc_cell0 (W : World) (z : Int) (t : TypeId) (g : Nat) (hg : g = W.heap.size) : (W.alloc (.cells #[.int k z] t)).cell? ⟨g, 0, none⟩ = some (.int k z) := by
  subst hg
  rw [cell_of_row _ _ _ _ _ _ (MapKept.heap_alloc W (.cells #[.int k z] t)).1]
  rfl
/-- An empty row that is written out ('[]int{}') is the call's own. -/
theorem OwnN.empty {W : World} (hb : base ≤ W.heap.size) : OwnN k E base (W.alloc (.cells #[] E)) (some ⟨W.heap.size, 0, none⟩) 0 [] :=
  ⟨⟨rfl, Or.inr ⟨W.heap.size, 0, #[], rfl, hb, (MapKept.heap_alloc W _).1, Nat.le_refl _, Nat.zero_le _, rfl, rfl⟩⟩, by simp; omega⟩
theorem OwnN.lower {b2 : Nat} (h : OwnN k E base w A c l) (hb : b2 ≤ base) : OwnN k E b2 w A c l := by
  refine ⟨⟨h.1.1, ?_⟩, by have := h.2; omega⟩
  rcases h.1.2 with h1 | ⟨g, cap, cur, hv, hg, r⟩
  · exact Or.inl h1
  · exact Or.inr ⟨g, cap, cur, hv, by omega, r⟩
theorem OwnN.block' {a : Addr} (h : OwnN k E base w A c l) (hA : A = some a) : base ≤ a.block ∧ a.block < w.heap.size := by
  subst hA
  rcases h.1.2 with ⟨h1, _⟩ | ⟨g, cap, cur, hv, hb, hh, _⟩
  · cases h1
  · injection hv with hA
    injection hA with hA
    subst hA
    refine ⟨hb, ?_⟩
    rcases Nat.lt_or_ge g w.heap.size with h1 | h1
    · exact h1
    · rw [Array.getElem?_eq_none h1] at hh; cases hh
theorem OwnN.setRow {g : Nat} {t : TypeId} {cs : Array Value} (h : OwnN k E base w A c l) (hg : g < base) : OwnN k E base (setRow w g t cs) A c l := by
  refine ⟨⟨h.1.1, ?_⟩, by rw [setRow_size]; exact h.2⟩
  rcases h.1.2 with h1 | ⟨b, cap, cur, hv, hb, hh, r⟩
  · exact Or.inl h1
  · exact Or.inr ⟨b, cap, cur, hv, hb, (setRow_far (by omega)).trans hh, r⟩
/-- 'append' of a row of numbers. -/
theorem wp_append_row {P : Program} {Q : Exit → Act → World → Prop} {K : Act → World → Prop} {o : Oper} {a : Act} (s x : Operand) (t : TypeId)
    (ho : o.op = .call { callee := .builtin .append, args := #[s, x], argTypes := #[t, t] })
    (i : TypeInfo) (bytes : Nat) (ht : P.underlying t = some (.slice E)) (hi : P.info? E = some i) (hz : i.zero = some (.int k 0)) (hsize : i.size = 1) (hby : i.bytes = bytes) (hb8 : bytes ≤ 8)
    (n : Nat) (hn : l.length = n) (hs : a.eval s = .slice A n c) (hown : OwnN k E base w A c l)
    (ad : Addr) (m cc : Nat) (xs : List Int) (hx : a.eval x = .slice (some ad) m cc) (hm : xs.length = m) (hcell : Nums k w (some ad) xs) (hlen : l.length + m < 17592186044415)
    (B : Nat) (W0 : World) (hB : B ≤ base) (hbelow : Below B W0 w)
    (h : ∀ A' c' w', OwnN k E base w' A' c' (l ++ xs) → Below B W0 w' → K (a.put o.dst (.slice A' (n + m) c')) w') : o.wp P a w K Q := by
  subst hn
  subst hm
  refine wp_append_own w s x t ho base E i (.int k 0) 1 bytes ht hi hz hsize hby rfl (by decide) _ _ _ hs hown.1 ad xs.length cc (xs.map (Value.int k)) hx (by simp) ?_ ?_ ?_ ?_ hown.2 ?_
  · intro j u hj
    have hj' : j < xs.length := by
      have := (List.getElem?_eq_some_iff.1 hj).1
      simpa using this
    rcases hcell with h0 | ⟨b', off, h1, h2, h3⟩
    · rw [h0] at hj'; cases hj'
    · injection h1 with h1
      subst h1
      have e : Value.int k (xs.getD j 0) = u := by simpa [List.getD, hj'] using hj
      rw [← e, add_plain]
      exact h3 j hj'
  · intro u hu
    simp only [List.mem_map] at hu
    obtain ⟨z, _, rfl⟩ := hu
    rfl
  · unfold maxLen; omega
  · have : (l.length + xs.length) * bytes ≤ (l.length + xs.length) * 8 := Nat.mul_le_mul_left _ hb8
    omega
  · intro v' w1 hown' hgrow _
    have hlen1 : (l ++ xs).length = l.length + xs.length := by simp
    have hsz : w.heap.size ≤ w1.heap.size := hgrow.size
    have hb1 : Below B W0 w1 := hbelow.grown hgrow (by have := hown.2; omega) (fun g hg => by have := (hown.1.lt g hg).1; omega)
    rcases hown'.2 with ⟨h1, h0⟩ | ⟨g, cap, cur, hv, h1, h2, h3, h4, h5, h6⟩
    · subst h1
      have e1 : l = [] := List.eq_nil_of_length_eq_zero (by omega)
      have e2 : xs = [] := List.eq_nil_of_length_eq_zero (by omega)
      subst e1; subst e2
      exact h none 0 w1 (OwnN.nil (by have := hown.2; omega)) hb1
    · subst hv
      rw [← hlen1] at hown'
      have hfin : OwnN k E base w1 (some ⟨g, 0, none⟩) cap (l ++ xs) := ⟨by rw [List.map_append, hlen1]; rw [hlen1] at hown'; exact hown', by have := hown.2; omega⟩
      exact h (some ⟨g, 0, none⟩) cap w1 hfin hb1
theorem wpList_append_row {P : Program} {Q : Exit → Act → World → Prop} {ops : Array Oper} {rest : List Oper} {o : Oper} {a : Act} (hgd : Region.wanted o (yielded ops a.tmps) = true) (s x : Operand) (t : TypeId)
    (ho : o.op = .call { callee := .builtin .append, args := #[s, x], argTypes := #[t, t] })
    (i : TypeInfo) (bytes : Nat) (ht : P.underlying t = some (.slice E)) (hi : P.info? E = some i) (hz : i.zero = some (.int k 0)) (hsize : i.size = 1) (hby : i.bytes = bytes) (hb8 : bytes ≤ 8)
    (n : Nat) (hn : l.length = n) (hs : a.eval s = .slice A n c) (hown : OwnN k E base w A c l)
    (ad : Addr) (m cc : Nat) (xs : List Int) (hx : a.eval x = .slice (some ad) m cc) (hm : xs.length = m) (hcell : Nums k w (some ad) xs) (hlen : l.length + m < 17592186044415)
    (B : Nat) (W0 : World) (hB : B ≤ base) (hbelow : Below B W0 w)
    (h : ∀ A' c' w', OwnN k E base w' A' c' (l ++ xs) → Below B W0 w' → wpList P ops Q rest (a.put o.dst (.slice A' (n + m) c')) w') : wpList P ops Q (o :: rest) a w :=
  BigFrame.wpList_want hgd fun _ hK => wp_append_row s x t ho i bytes ht hi hz hsize hby hb8 n hn hs hown ad m cc xs hx hm hcell hlen B W0 hB hbelow fun A' c' w' h1 h2 => hK _ _ (h A' c' w' h1 h2)

/-- A row of bytes as a text. -/
theorem text_of_nums {P : Program} {src dst e : TypeId} (hs : P.underlying src = some (.slice e)) (he : P.underlying e = some (.int .u8)) (hd : P.underlying dst = some .string) {n cap : Nat} {xs : List Int} (hN : Nums .u8 w A xs) (hn : xs.length = n) :
    (convert src dst (.slice A n cap)).run P w = .ok (.string (strOfNums xs)) w := by
  subst hn
  rcases hN with rfl | ⟨b, off, rfl, hlt, hc⟩
  · have e0 : strOfNums [] = ⟨#[]⟩ := rfl
    rw [e0]
    cases A with
    | none => exact run_convert_bytes_nil w src e hs he 0 cap dst hd
    | some a => exact run_convert_bytes_back w src dst e a cap [] hs he hd (fun j hj => by cases hj)
  · exact run_convert_bytes_arg w src e hs he b off xs.length cap xs rfl hc dst hd
end

/-- All that was there, but block g, is as it was. -/
def But (g : Nat) (w w' : World) : Prop := (∀ b, b < w.heap.size → b ≠ g → w'.heap[b]? = w.heap[b]?) ∧ w.heap.size ≤ w'.heap.size
theorem But.of_below {g : Nat} {w w' : World} (h : Below w.heap.size w w') : But g w w' := ⟨fun b hb _ => h.block b hb, h.size⟩
theorem But.trans {g : Nat} {a b c : World} (h : But g a b) (k : But g b c) : But g a c :=
  ⟨fun x hx hg => (k.1 x (Nat.lt_of_lt_of_le hx h.2) hg).trans (h.1 x hx hg), Nat.le_trans h.2 k.2⟩
theorem But.set {g : Nat} {w : World} {t : TypeId} {cs : Array Value} : But g w (setRow w g t cs) := ⟨fun _ _ hb => setRow_far hb, by rw [setRow_size]; exact Nat.le_refl _⟩
theorem But.nums {g : Nat} {w w' : World} (h : But g w w') {k : IntKind} {A : Option Addr} {zs : List Int} (hN : Nums k w A zs) (hA : ∀ a, A = some a → a.block ≠ g) : Nums k w' A zs := by
  rcases hN with rfl | ⟨b, off, h1, h2, h3⟩
  · exact Or.inl rfl
  · refine Or.inr ⟨b, off, h1, Nat.lt_of_lt_of_le h2 h.2, fun i hi => ?_⟩
    rw [← h3 i hi]
    unfold World.cell?
    simp only [h.1 b h2 (hA _ h1)]
end Go.Proofs.Ytnfdfnkhjlkdhaa
