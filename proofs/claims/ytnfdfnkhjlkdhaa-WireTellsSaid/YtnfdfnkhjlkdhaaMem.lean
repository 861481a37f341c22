/- Slices of numbers, nil let in: how they read, how they come in. No program in it. -/
import Derived.Test.YtnfdfnkhjlkdhaaLaw
import Derived.Laws.OwnMore
import Derived.Deep.Draws
import Derived.Laws.AppendOwn
import Derived.BigFrame
namespace Go.Proofs.Ytnfdfnkhjlkdhaa
open Go.ChangeShapes Go.WideShapes Go.ChangeAt Go.RowKit

theorem ret_int {k : IntKind} {a b : Int} (h : a = b) : Ending.returned (.int k a) = .returned (.int k b) := by rw [h]
theorem ret_bool {a b : Bool} (h : a = b) : Ending.returned (.bool a) = .returned (.bool b) := by rw [h]

theorem quiet_left {P : Program} {f : FuncId} {args : Array Value} {w : World} {n : Nat} {v : Value}
    (h : Calls P f args (w.drewN n) fun e w' => e = .returned v ∧ w.drewN n = w') : Calls P f args (w.drewN n) fun e w'' => e = .returned v ∧ ∃ m, w'' = w.drewN m :=
  h.mono fun _ _ ⟨he, hm⟩ => ⟨he, n, hm.symm⟩

theorem below_drewN {B : Nat} {a w : World} (h : Below B a w) (n : Nat) : Below B a (w.drewN n) := ⟨h.os, h.tape, h.output, h.size, h.block⟩

theorem below_set {B : Nat} {a w : World} {b o : Nat} {u : Value} (h : Below B a w) (hb : B ≤ b) : Below B a (w.setCell ⟨b, o, none⟩ u) := h.setCell (p := ⟨b, o, none⟩) hb u
/-- The world with the block g written whole. -/
def setRow (w : World) (g : Nat) (t : TypeId) (cs : Array Value) : World := { w with heap := w.heap.setIfInBounds g (.cells cs t) }
section
variable {w : World} {g : Nat} {t : TypeId} {cs : Array Value}
theorem setRow_heap (k : Nat) : (setRow w g t cs).heap[k]? = if k = g ∧ g < w.heap.size then some (.cells cs t) else w.heap[k]? := by
  unfold setRow
  rw [Array.getElem?_setIfInBounds]
  by_cases h : g = k
  · subst h; by_cases h2 : g < w.heap.size <;> simp [h2]
  · rw [if_neg h, if_neg (by omega)]
theorem setRow_size : (setRow w g t cs).heap.size = w.heap.size := by simp [setRow]
theorem world_eq {a b : World} (h : ∀ k : Nat, a.heap[k]? = b.heap[k]?) (h1 : a.tape = b.tape) (h2 : a.drawn = b.drawn) (h3 : a.os = b.os) (h4 : a.output = b.output) : a = b := by
  have hh : a.heap = b.heap := Array.ext_getElem? h
  cases a; cases b; simp_all
theorem row_lt (h : w.heap[g]? = some (.cells cs t)) : g < w.heap.size := by
  rcases Nat.lt_or_ge g w.heap.size with h1 | h1
  · exact h1
  · rw [Array.getElem?_eq_none h1] at h; cases h
theorem setCell_row (h : w.heap[g]? = some (.cells cs t)) (i : Nat) (u : Value) : w.setCell ⟨g, i, none⟩ u = setRow w g t (cs.setIfInBounds i u) := by
  refine world_eq (fun k => ?_) rfl rfl rfl rfl
  rw [setRow_heap]
  by_cases hk : k = g
  · subst hk
    rw [if_pos ⟨rfl, row_lt h⟩]
    simp [World.setCell, Array.getElem?_modify, h]
  · rw [if_neg (by omega)]
    exact Below.heap_setCell _ _ _ _ hk
theorem setRow_row (h : g < w.heap.size) : (setRow w g t cs).heap[g]? = some (.cells cs t) := by rw [setRow_heap, if_pos ⟨rfl, h⟩]
theorem setRow_far {k : Nat} (h : k ≠ g) : (setRow w g t cs).heap[k]? = w.heap[k]? := by rw [setRow_heap, if_neg (by omega)]
theorem setRow_twice (ds : Array Value) : setRow (setRow w g t cs) g t ds = setRow w g t ds := by
  refine world_eq (fun k => ?_) rfl rfl rfl rfl
  rw [setRow_heap, setRow_heap, setRow_heap, setRow_size]
  by_cases hk : k = g ∧ g < w.heap.size
  · rw [if_pos hk, if_pos hk]
  · rw [if_neg hk, if_neg hk, if_neg hk]
theorem setRow_set (h : g < w.heap.size) (i : Nat) (u : Value) : (setRow w g t cs).setCell ⟨g, i, none⟩ u = setRow w g t (cs.setIfInBounds i u) := by
  rw [setCell_row (setRow_row h), setRow_twice]
theorem setRow_cell (h : g < w.heap.size) (i : Nat) : (setRow w g t cs).cell? ⟨g, i, none⟩ = cs[i]? := cell_of_row _ _ _ _ _ _ (setRow_row h)
theorem frozen_row (h : w.heap[g]? = some (.cells cs t)) (i : Nat) : w.frozen? ⟨g, i, none⟩ = false := by simp [World.frozen?, h]
theorem setRow_below {B : Nat} {a : World} (hb : Below B a w) (hg : B ≤ g) : Below B a (setRow w g t cs) :=
  ⟨hb.os, hb.tape, hb.output, by rw [setRow_size]; exact hb.size, fun k hk => by rw [setRow_far (by omega)]; exact hb.block k hk⟩
end

/-- What a walk needs of two blocks of the call's own (g the one that is written again and again, g2 the other): all as rules without a condition. -/
structure Rows2 (w : World) (g : Nat) (t : TypeId) (cs : Array Value) (g2 : Nat) (t2 : TypeId) (cs2 : Array Value) : Prop where
  set0 : ∀ i u, w.setCell ⟨g, i, none⟩ u = setRow w g t (cs.setIfInBounds i u)
  set1 : ∀ ds i u, (setRow w g t ds).setCell ⟨g, i, none⟩ u = setRow w g t (ds.setIfInBounds i u)
  cell1 : ∀ ds i, (setRow w g t ds).cell? ⟨g, i, none⟩ = ds[i]?
  frozen1 : ∀ ds i, (setRow w g t ds).frozen? ⟨g, i, none⟩ = false
  cell2 : ∀ ds i, (setRow w g t ds).cell? ⟨g2, i, none⟩ = cs2[i]?
  frozen2 : ∀ ds i, (setRow w g t ds).frozen? ⟨g2, i, none⟩ = false
  set2 : ∀ ds i u, (setRow w g t ds).setCell ⟨g2, i, none⟩ u = setRow (setRow w g t ds) g2 t2 (cs2.setIfInBounds i u)
  set3 : ∀ ds es i u, (setRow (setRow w g t ds) g2 t2 es).setCell ⟨g2, i, none⟩ u = setRow (setRow w g t ds) g2 t2 (es.setIfInBounds i u)
  cell3 : ∀ ds es i, (setRow (setRow w g t ds) g2 t2 es).cell? ⟨g2, i, none⟩ = es[i]?
  frozen3 : ∀ ds es i, (setRow (setRow w g t ds) g2 t2 es).frozen? ⟨g2, i, none⟩ = false
  size1 : ∀ ds, (setRow w g t ds).heap.size = w.heap.size
  cell0 : ∀ i, w.cell? ⟨g, i, none⟩ = cs[i]?
  frozen0 : ∀ i, w.frozen? ⟨g, i, none⟩ = false
  cell02 : ∀ i, w.cell? ⟨g2, i, none⟩ = cs2[i]?
  frozen02 : ∀ i, w.frozen? ⟨g2, i, none⟩ = false
theorem rows2 {w : World} {g g2 : Nat} {t t2 : TypeId} {cs cs2 : Array Value} (h1 : w.heap[g]? = some (.cells cs t)) (h2 : w.heap[g2]? = some (.cells cs2 t2)) (hne : g2 ≠ g) : Rows2 w g t cs g2 t2 cs2 := by
  have l1 := row_lt h1
  have l2 := row_lt h2
  have r2 : ∀ ds, (setRow w g t ds).heap[g2]? = some (.cells cs2 t2) := fun ds => (setRow_far hne).trans h2
  exact ⟨setCell_row h1, fun ds => setRow_set l1, fun ds => setRow_cell l1, fun ds => frozen_row (setRow_row l1), fun ds _ => cell_of_row _ _ _ _ _ _ (r2 ds), fun ds => frozen_row (r2 ds), fun ds => setCell_row (r2 ds),
    fun ds es => setRow_set (by rw [setRow_size]; exact l2), fun ds es => setRow_cell (by rw [setRow_size]; exact l2), fun ds es => frozen_row (setRow_row (by rw [setRow_size]; exact l2)), fun ds => setRow_size,
    fun _ => cell_of_row _ _ _ _ _ _ h1, frozen_row h1, fun i => cell_of_row _ _ _ _ _ _ h2, frozen_row h2⟩

/-- Two new blocks, and then a call that turns nothing of what was there: they are still as they were laid. -/
theorem two_blocks {w w' : World} {cs cs2 : Array Value} {t t2 : TypeId} (hb : Below ((w.alloc (.cells cs t)).alloc (.cells cs2 t2)).heap.size ((w.alloc (.cells cs t)).alloc (.cells cs2 t2)) w') :
    w'.heap[w.heap.size]? = some (.cells cs t) ∧ w'.heap[w.heap.size + 1]? = some (.cells cs2 t2) ∧ w.heap.size + 1 < w'.heap.size ∧ Below w.heap.size w w' := by
  have h1 : ((w.alloc (.cells cs t)).alloc (.cells cs2 t2)).heap[w.heap.size]? = some (.cells cs t) := by
    rw [Below.heap_alloc _ _ _ (by simp)]; exact (MapKept.heap_alloc w _).1
  have h2 : ((w.alloc (.cells cs t)).alloc (.cells cs2 t2)).heap[w.heap.size + 1]? = some (.cells cs2 t2) := by
    have := (MapKept.heap_alloc (w.alloc (.cells cs t)) (.cells cs2 t2)).1
    simpa using this
  have hz : ((w.alloc (.cells cs t)).alloc (.cells cs2 t2)).heap.size = w.heap.size + 1 + 1 := by simp
  exact ⟨(hb.block w.heap.size (by omega)).trans h1, (hb.block (w.heap.size + 1) (by omega)).trans h2, by have := hb.size; omega,
    (((Below.refl _ _).alloc (Nat.le_refl _) _).alloc (by simp) _).trans (hb.mono (by omega))⟩
/-- A new block, and then a call that turns nothing of what was there. -/
theorem new_kept {w w' : World} {cs : Array Value} {t : TypeId} (hb : Below (w.alloc (.cells cs t)).heap.size (w.alloc (.cells cs t)) w') :
    w'.heap[w.heap.size]? = some (.cells cs t) ∧ w.heap.size < w'.heap.size ∧ Below w.heap.size w w' := by
  have h1 : (w.alloc (.cells cs t)).heap[w.heap.size]? = some (.cells cs t) := (MapKept.heap_alloc w _).1
  have hz : (w.alloc (.cells cs t)).heap.size = w.heap.size + 1 := by simp
  exact ⟨(hb.block w.heap.size (by omega)).trans h1, by have := hb.size; omega, ((Below.refl _ _).alloc (Nat.le_refl _) _).trans (hb.mono (by omega))⟩
theorem row_kept {w w' : World} {B g : Nat} {o : Obj} (h : w.heap[g]? = some o) (hb : Below B w w') (hg : g < B) : w'.heap[g]? = some o := (hb.block g hg).trans h
theorem row_cells {w : World} {g : Nat} {cs : Array Value} {t : TypeId} (h : w.heap[g]? = some (.cells cs t)) : ∀ i, w.cell? ⟨g, i, none⟩ = cs[i]? := fun _ => cell_of_row _ _ _ _ _ _ h
theorem bcell {W w1 : World} (hb : Below W.heap.size W w1) : (∀ b o, b < W.heap.size → w1.cell? ⟨b, o, none⟩ = W.cell? ⟨b, o, none⟩) ∧ (∀ b o, b < W.heap.size → w1.frozen? ⟨b, o, none⟩ = W.frozen? ⟨b, o, none⟩) :=
  ⟨fun b o h => hb.cell (p := ⟨b, o, none⟩) h, fun b o h => hb.frozen (p := ⟨b, o, none⟩) h⟩

/-- The cells of a slice of numbers of a kind. -/
def Nums (k : IntKind) (w : World) (A : Option Addr) (zs : List Int) : Prop :=
  zs = [] ∨ ∃ b off, A = some ⟨b, off, none⟩ ∧ b < w.heap.size ∧ ∀ i, i < zs.length → w.cell? ⟨b, off + i, none⟩ = some (.int k (zs.getD i 0))

section
variable {k : IntKind} {w w' : World} {A : Option Addr} {zs : List Int}
theorem Nums.nil : Nums k w A [] := Or.inl rfl
theorem Nums.below (h : Nums k w A zs) (hb : Below w.heap.size w w') : Nums k w' A zs := by
  rcases h with rfl | ⟨b, off, rfl, hlt, hc⟩
  · exact Or.inl rfl
  · exact Or.inr ⟨b, off, rfl, Nat.lt_of_lt_of_le hlt hb.size, fun i hi => (hb.cell (p := ⟨b, off + i, none⟩) hlt).trans (hc i hi)⟩
theorem Nums.keep {B : Nat} (h : Nums k w A zs) (hl : ∀ b off, A = some ⟨b, off, none⟩ → b < B) (hb : Below B w w') : Nums k w' A zs := by
  rcases h with rfl | ⟨b, off, rfl, hlt, hc⟩
  · exact Or.inl rfl
  · exact Or.inr ⟨b, off, rfl, Nat.lt_of_lt_of_le hlt hb.size, fun i hi => (hb.cell (p := ⟨b, off + i, none⟩) (hl b off rfl)).trans (hc i hi)⟩
theorem Nums.alloc (h : Nums k w A zs) (o : Obj) : Nums k (w.alloc o) A zs := h.below ((Below.refl _ _).alloc (Nat.le_refl _) _)
theorem Nums.drew (h : Nums k w A zs) : Nums k w.drew A zs := h
theorem Nums.drewN (h : Nums k w A zs) (n : Nat) : Nums k (w.drewN n) A zs := h
theorem Nums.take (h : Nums k w A zs) (n : Nat) : Nums k w A (zs.take n) := by
  rcases h with rfl | ⟨b, off, rfl, hlt, hc⟩
  · exact Or.inl (by simp)
  · refine Or.inr ⟨b, off, rfl, hlt, fun i hi => ?_⟩
    have h1 : i < n := by rw [List.length_take] at hi; omega
    have h2 : i < zs.length := by rw [List.length_take] at hi; omega
    rw [hc i h2]
    simp [List.getD, h1]
theorem Nums.drop (h : Nums k w A zs) (n cap : Nat) (hn : n ≤ zs.length) (hcap : zs.length ≤ cap) : Nums k w (if cap = n then A else A.map (·.add n)) (zs.drop n) := by
  by_cases h0 : n = zs.length
  · exact Or.inl (by rw [h0]; simp)
  · rcases h with rfl | ⟨b, off, rfl, hlt, hc⟩
    · simp at hn; simp at h0; omega
    · rw [if_neg (by omega)]
      refine Or.inr ⟨b, off + n, by simp [Addr.add], hlt, fun i hi => ?_⟩
      rw [List.length_drop] at hi
      rw [show off + n + i = off + (n + i) from by omega, hc (n + i) (by omega)]
      simp [List.getD]
theorem Nums.new (w : World) (zs : List Int) (t : TypeId) (cs : Array Value) (g : Nat) (hg : g = w.heap.size) (hcs : cs = (zs.map (Value.int k)).toArray) : Nums k (w.alloc (.cells cs t)) (some ⟨g, 0, none⟩) zs := by
  subst hg; subst hcs
  refine Or.inr ⟨_, _, rfl, by simp, fun i hi => ?_⟩
  have h1 : (w.alloc (.cells (zs.map (Value.int k)).toArray t)).heap[w.heap.size]? = some (.cells (zs.map (Value.int k)).toArray t) := (MapKept.heap_alloc w _).1
  rw [cell_of_row _ _ _ _ _ _ h1]
  simp [List.getD, hi]
theorem Nums.of_own {base : Nat} {e : TypeId} {n c : Nat} (h : w.ownsRow base e 1 (.slice A n c) n (zs.map (Value.int k))) (hn : n = zs.length) : Nums k w A zs := by
  by_cases h0 : n = 0
  · exact Or.inl (List.eq_nil_of_length_eq_zero (by omega))
  · rcases h.2 with ⟨_, h1⟩ | ⟨g, cap, cur, hv, _, hh, hn1, _, hsz, htk⟩
    · omega
    · have hA : A = some ⟨g, 0, none⟩ := by injection hv
      subst hA
      have hlt : g < w.heap.size := by
        rcases Nat.lt_or_ge g w.heap.size with h1 | h1
        · exact h1
        · rw [Array.getElem?_eq_none h1] at hh; cases hh
      refine Or.inr ⟨g, 0, rfl, hlt, fun i hi => ?_⟩
      rw [Nat.zero_add, cell_of_row _ _ _ _ _ _ hh]
      have h2 : (cur.toList.take (n * 1))[i]? = some (.int k (zs.getD i 0)) := by
        rw [htk]; simp [List.getD, hi]
      rw [List.getElem?_take] at h2
      split at h2
      · simpa using h2
      · cases h2
end

/-- A slice of the call's own that holds these numbers, its block at or above 'base'. -/
def OwnN (k : IntKind) (E : TypeId) (base : Nat) (w : World) (A : Option Addr) (c : Nat) (l : List Int) : Prop :=
  w.ownsRow base E 1 (.slice A l.length c) l.length (l.map (Value.int k)) ∧ base ≤ w.heap.size
section
variable {k : IntKind} {w w' : World} {A : Option Addr} {l : List Int} {E : TypeId} {base c : Nat}
theorem OwnN.nil (h : base ≤ w.heap.size) : OwnN k E base w none 0 [] := ⟨World.ownsRow_nil _ _ _ _, h⟩
theorem OwnN.alloc (h : OwnN k E base w A c l) (o : Obj) : OwnN k E base (w.alloc o) A c l := ⟨h.1.alloc o, by simp; have := h.2; omega⟩
theorem OwnN.drew (h : OwnN k E base w A c l) : OwnN k E base w.drew A c l := h
theorem OwnN.drewN (h : OwnN k E base w A c l) (n : Nat) : OwnN k E base (w.drewN n) A c l := h
theorem OwnN.nums (h : OwnN k E base w A c l) : Nums k w A l := Nums.of_own h.1 rfl
theorem OwnN.len (h : OwnN k E base w A c l) : l.length ≤ c ∧ c ≤ maxLen := by
  rcases h.1.2 with ⟨h1, h2⟩ | ⟨g, cap, cur, hv, _, _, h3, h4, _⟩
  · injection h1 with _ _ h3
    exact ⟨by omega, by rw [h3]; exact Nat.zero_le _⟩
  · injection hv with _ _ h5
    subst h5
    exact ⟨h3, h4⟩

/-- 'append' of one number to such a slice. -/
theorem wpList_append_num {P : Program} {Q : Exit → Act → World → Prop} {ops : Array Oper} {rest : List Oper} {o : Oper} {a : Act} (hgd : Region.wanted o (yielded ops a.tmps) = true) (s x : Operand) (t : TypeId)
    (ho : o.op = .call { callee := .builtin .append, args := #[s, x], argTypes := #[t, t] })
    (i : TypeInfo) (bytes : Nat) (ht : P.underlying t = some (.slice E)) (hi : P.info? E = some i) (hz : i.zero = some (.int k 0)) (hsize : i.size = 1) (hby : i.bytes = bytes) (hb8 : bytes ≤ 8)
    (n : Nat) (hn : l.length = n) (hs : a.eval s = .slice A n c) (hown : OwnN k E base w A c l)
    (ad : Addr) (cc : Nat) (x0 : Int) (hx : a.eval x = .slice (some ad) 1 cc) (hcell : w.cell? ad = some (.int k x0)) (hlen : l.length < 17592186044415)
    (B : Nat) (W0 : World) (hB : B ≤ base) (hbelow : Below B W0 w)
    (h : ∀ A' c' w', OwnN k E base w' A' c' (l ++ [x0]) → Below B W0 w' → wpList P ops Q rest (a.put o.dst (.slice A' (n + 1) c')) w') : wpList P ops Q (o :: rest) a w := by
  subst hn
  refine BigFrame.wpList_want hgd fun K hK => wp_append_own w s x t ho base E i (.int k 0) 1 bytes ht hi hz hsize hby rfl (by decide) _ _ _ hs hown.1 ad 1 cc [.int k x0] hx rfl ?_ ?_ ?_ ?_ hown.2 ?_
  · intro j u hj
    match j, hj with
    | 0, hj =>
      simp at hj; subst hj
      simpa [Addr.add] using hcell
  · intro u hu
    simp at hu; subst hu; rfl
  · unfold maxLen; omega
  · have : (l.length + 1) * bytes ≤ (l.length + 1) * 8 := Nat.mul_le_mul_left _ hb8
    omega
  · intro v' w1 hown' hgrow _
    have hlen1 : (l ++ [x0]).length = l.length + 1 := by simp
    have hsz : w.heap.size ≤ w1.heap.size := hgrow.size
    have hb1 : Below B W0 w1 := hbelow.grown hgrow (by have := hown.2; omega) (fun g hg => by have := (hown.1.lt g hg).1; omega)
    rcases hown'.2 with ⟨_, h0⟩ | ⟨g, cap, cur, hv, h1, h2, h3, h4, h5, h6⟩
    · omega
    · subst hv
      rw [← hlen1] at hown'
      have hfin : OwnN k E base w1 (some ⟨g, 0, none⟩) cap (l ++ [x0]) := ⟨by rw [List.map_append, hlen1]; rw [hlen1] at hown'; exact hown', by have := hown.2; omega⟩
      exact hK _ _ (h (some ⟨g, 0, none⟩) cap w1 hfin hb1)
end

/-- A slice of numbers that comes in. -/
theorem open_nums {H : Type} {enc : TypeId × Value → H} {P : Program} {W : World} {t e : TypeId} {k : IntKind} {base : Nat} {v : Value} {d : DataW H} {ps : List MemPlace}
    (ht : P.underlying t = some (.slice e)) (he : P.underlying e = some (.int k)) (hc : P.cellsOf e = 1)
    (hval : Value.okWide P W .any base t v) (h : DataW.Trod enc P W 0 (fun _ => true) true t v d ps) :
    ∃ (A : Option Addr) (n cap : Nat) (zs : List Int), v = .slice A n cap ∧ n ≤ cap ∧ cap ≤ maxLen ∧ zs.length = n ∧ Nums k W A zs ∧ (∀ z ∈ zs, (Lit.int k z).wf = true) := by
  obtain ⟨a0, len, cap, rfl⟩ := okWide_slice ht hval
  obtain ⟨fuel, hf⟩ := h
  rcases open_ints ht he hc hf with ⟨hcs, hx⟩ | ⟨a, len', cap', zs, hcs, _, hl, hm, hz, hx, hcell, hwz⟩
  · simp [Value.cells] at hcs
    obtain ⟨rfl, rfl, rfl⟩ := hcs
    exact ⟨none, 0, 0, [], rfl, Nat.le_refl _, Nat.zero_le _, rfl, Or.inl rfl, by simp⟩
  · simp [Value.cells] at hcs
    obtain ⟨rfl, rfl, rfl⟩ := hcs
    simp only [if_true] at hz
    have hlen : (zs.take len).length = len := by rw [List.length_take]; omega
    refine ⟨some a, len, cap, zs.take len, rfl, hl, hm, hlen, ?_, fun z hz => hwz z (List.mem_of_mem_take hz)⟩
    by_cases h0 : len = 0
    · exact Or.inl (List.eq_nil_of_length_eq_zero (by omega))
    · obtain ⟨b, off, spot⟩ := a
      have hspot : spot = none := by simpa [Addr.add] using World.cell?_spot (hcell 0 (by omega))
      subst hspot
      refine Or.inr ⟨b, off, rfl, World.block_lt_of_cell? W ⟨b, off, none⟩ (u := .int k (zs.getD 0 0)) (by simpa [Addr.add] using hcell 0 (by omega)), fun i hi => ?_⟩
      have hi' : i < len := by omega
      rw [← add_plain, hcell i (by omega)]
      simp [List.getD, hi']
end Go.Proofs.Ytnfdfnkhjlkdhaa
