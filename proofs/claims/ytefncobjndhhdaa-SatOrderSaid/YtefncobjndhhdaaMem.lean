/- Slices of numbers, nil let in: how they read, how they come in. No program in it. -/
import Derived.Test.YtefncobjndhhdaaLaw
import Derived.Laws.OwnMore
import Derived.Deep.Draws
import Derived.Laws.AppendOwn
import Derived.BigFrame
namespace Go.Proofs.Ytefncobjndhhdaa
open Go.ChangeShapes Go.WideShapes Go.ChangeAt Go.RowKit

theorem ret_int {k : IntKind} {a b : Int} (h : a = b) : Ending.returned (.int k a) = .returned (.int k b) := by rw [h]
theorem ret_bool {a b : Bool} (h : a = b) : Ending.returned (.bool a) = .returned (.bool b) := by rw [h]

theorem quiet_left {P : Program} {f : FuncId} {args : Array Value} {w : World} {n : Nat} {v : Value}
    (h : Calls P f args (w.drewN n) fun e w' => e = .returned v ∧ w.drewN n = w') : Calls P f args (w.drewN n) fun e w'' => e = .returned v ∧ ∃ m, w'' = w.drewN m :=
  h.mono fun _ _ ⟨he, hm⟩ => ⟨he, n, hm.symm⟩

theorem below_drewN {B : Nat} {a w : World} (h : Below B a w) (n : Nat) : Below B a (w.drewN n) := ⟨h.os, h.tape, h.output, h.size, h.block⟩

/-- The cells of a slice of numbers of a kind. -/
def Nums (k : IntKind) (w : World) (A : Option Addr) (zs : List Int) : Prop :=
  zs = [] ∨ ∃ b off, A = some ⟨b, off, none⟩ ∧ b < w.heap.size ∧ ∀ i, i < zs.length → w.cell? ⟨b, off + i, none⟩ = some (.int k (zs.getD i 0))

section
variable {k : IntKind} {w w' : World} {A : Option Addr} {zs : List Int}
theorem Nums.nil : Nums k w A [] := Or.inl rfl
theorem Nums.below (h : Nums k w A zs) (hb : Below w.heap.size w w') : Nums k w' A zs := by
  rcases h with rfl | ⟨b, off, rfl, hlt, hc⟩
  · exact Or.inl rfl
  · exact Or.inr ⟨b, off, rfl, Nat.lt_of_lt_of_le hlt hb.size, fun i hi => (hb.cell (p := ⟨b, off + i, none⟩) hlt).trans (hc i hi)⟩
theorem Nums.keep {B : Nat} (h : Nums k w A zs) (hl : ∀ b off, A = some ⟨b, off, none⟩ → b < B) (hb : Below B w w') : Nums k w' A zs := by
  rcases h with rfl | ⟨b, off, rfl, hlt, hc⟩
  · exact Or.inl rfl
  · exact Or.inr ⟨b, off, rfl, Nat.lt_of_lt_of_le hlt hb.size, fun i hi => (hb.cell (p := ⟨b, off + i, none⟩) (hl b off rfl)).trans (hc i hi)⟩
theorem Nums.alloc (h : Nums k w A zs) (o : Obj) : Nums k (w.alloc o) A zs := h.below ((Below.refl _ _).alloc (Nat.le_refl _) _)
theorem Nums.drew (h : Nums k w A zs) : Nums k w.drew A zs := h
theorem Nums.drewN (h : Nums k w A zs) (n : Nat) : Nums k (w.drewN n) A zs := h
theorem Nums.take (h : Nums k w A zs) (n : Nat) : Nums k w A (zs.take n) := by
  rcases h with rfl | ⟨b, off, rfl, hlt, hc⟩
  · exact Or.inl (by simp)
  · refine Or.inr ⟨b, off, rfl, hlt, fun i hi => ?_⟩
    have h1 : i < n := by rw [List.length_take] at hi; omega
    have h2 : i < zs.length := by rw [List.length_take] at hi; omega
    rw [hc i h2]
    simp [List.getD, h1]
theorem Nums.drop (h : Nums k w A zs) (n cap : Nat) (hn : n ≤ zs.length) (hcap : zs.length ≤ cap) : Nums k w (if cap = n then A else A.map (·.add n)) (zs.drop n) := by
  by_cases h0 : n = zs.length
  · exact Or.inl (by rw [h0]; simp)
  · rcases h with rfl | ⟨b, off, rfl, hlt, hc⟩
    · simp at hn; simp at h0; omega
    · rw [if_neg (by omega)]
      refine Or.inr ⟨b, off + n, by simp [Addr.add], hlt, fun i hi => ?_⟩
      rw [List.length_drop] at hi
      rw [show off + n + i = off + (n + i) from by omega, hc (n + i) (by omega)]
      simp [List.getD]
theorem Nums.new (w : World) (zs : List Int) (t : TypeId) (cs : Array Value) (g : Nat) (hg : g = w.heap.size) (hcs : cs = (zs.map (Value.int k)).toArray) : Nums k (w.alloc (.cells cs t)) (some ⟨g, 0, none⟩) zs := by
  subst hg; subst hcs
  refine Or.inr ⟨_, _, rfl, by simp, fun i hi => ?_⟩
  have h1 : (w.alloc (.cells (zs.map (Value.int k)).toArray t)).heap[w.heap.size]? = some (.cells (zs.map (Value.int k)).toArray t) := (MapKept.heap_alloc w _).1
  rw [cell_of_row _ _ _ _ _ _ h1]
  simp [List.getD, hi]
theorem Nums.of_own {base : Nat} {e : TypeId} {n c : Nat} (h : w.ownsRow base e 1 (.slice A n c) n (zs.map (Value.int k))) (hn : n = zs.length) : Nums k w A zs := by
  by_cases h0 : n = 0
  · exact Or.inl (List.eq_nil_of_length_eq_zero (by omega))
  · rcases h.2 with ⟨_, h1⟩ | ⟨g, cap, cur, hv, _, hh, hn1, _, hsz, htk⟩
    · omega
    · have hA : A = some ⟨g, 0, none⟩ := by injection hv
      subst hA
      have hlt : g < w.heap.size := by
        rcases Nat.lt_or_ge g w.heap.size with h1 | h1
        · exact h1
        · rw [Array.getElem?_eq_none h1] at hh; cases hh
      refine Or.inr ⟨g, 0, rfl, hlt, fun i hi => ?_⟩
      rw [Nat.zero_add, cell_of_row _ _ _ _ _ _ hh]
      have h2 : (cur.toList.take (n * 1))[i]? = some (.int k (zs.getD i 0)) := by
        rw [htk]; simp [List.getD, hi]
      rw [List.getElem?_take] at h2
      split at h2
      · simpa using h2
      · cases h2
end

/-- A slice of the call's own that holds these numbers, its block at or above 'base'. -/
def OwnN (k : IntKind) (E : TypeId) (base : Nat) (w : World) (A : Option Addr) (c : Nat) (l : List Int) : Prop :=
  w.ownsRow base E 1 (.slice A l.length c) l.length (l.map (Value.int k)) ∧ base ≤ w.heap.size
section
variable {k : IntKind} {w w' : World} {A : Option Addr} {l : List Int} {E : TypeId} {base c : Nat}
theorem OwnN.nil (h : base ≤ w.heap.size) : OwnN k E base w none 0 [] := ⟨World.ownsRow_nil _ _ _ _, h⟩
theorem OwnN.alloc (h : OwnN k E base w A c l) (o : Obj) : OwnN k E base (w.alloc o) A c l := ⟨h.1.alloc o, by simp; have := h.2; omega⟩
theorem OwnN.drew (h : OwnN k E base w A c l) : OwnN k E base w.drew A c l := h
theorem OwnN.drewN (h : OwnN k E base w A c l) (n : Nat) : OwnN k E base (w.drewN n) A c l := h
theorem OwnN.nums (h : OwnN k E base w A c l) : Nums k w A l := Nums.of_own h.1 rfl
theorem OwnN.len (h : OwnN k E base w A c l) : l.length ≤ c ∧ c ≤ maxLen := by
  rcases h.1.2 with ⟨h1, h2⟩ | ⟨g, cap, cur, hv, _, _, h3, h4, _⟩
  · injection h1 with _ _ h3
    exact ⟨by omega, by rw [h3]; exact Nat.zero_le _⟩
  · injection hv with _ _ h5
    subst h5
    exact ⟨h3, h4⟩

/-- 'append' of one number to such a slice. -/
theorem wpList_append_num {P : Program} {Q : Exit → Act → World → Prop} {ops : Array Oper} {rest : List Oper} {o : Oper} {a : Act} (hgd : Region.wanted o (yielded ops a.tmps) = true) (s x : Operand) (t : TypeId)
    (ho : o.op = .call { callee := .builtin .append, args := #[s, x], argTypes := #[t, t] })
    (i : TypeInfo) (bytes : Nat) (ht : P.underlying t = some (.slice E)) (hi : P.info? E = some i) (hz : i.zero = some (.int k 0)) (hsize : i.size = 1) (hby : i.bytes = bytes) (hb8 : bytes ≤ 8)
    (n : Nat) (hn : l.length = n) (hs : a.eval s = .slice A n c) (hown : OwnN k E base w A c l)
    (ad : Addr) (cc : Nat) (x0 : Int) (hx : a.eval x = .slice (some ad) 1 cc) (hcell : w.cell? ad = some (.int k x0)) (hlen : l.length < 17592186044415)
    (B : Nat) (W0 : World) (hB : B ≤ base) (hbelow : Below B W0 w)
    (h : ∀ A' c' w', OwnN k E base w' A' c' (l ++ [x0]) → Below B W0 w' → wpList P ops Q rest (a.put o.dst (.slice A' (n + 1) c')) w') : wpList P ops Q (o :: rest) a w := by
  subst hn
  refine BigFrame.wpList_want hgd fun K hK => wp_append_own w s x t ho base E i (.int k 0) 1 bytes ht hi hz hsize hby rfl (by decide) _ _ _ hs hown.1 ad 1 cc [.int k x0] hx rfl ?_ ?_ ?_ ?_ hown.2 ?_
  · intro j u hj
    match j, hj with
    | 0, hj =>
      simp at hj; subst hj
      simpa [Addr.add] using hcell
  · intro u hu
    simp at hu; subst hu; rfl
  · unfold maxLen; omega
  · have : (l.length + 1) * bytes ≤ (l.length + 1) * 8 := Nat.mul_le_mul_left _ hb8
    omega
  · intro v' w1 hown' hgrow _
    have hlen1 : (l ++ [x0]).length = l.length + 1 := by simp
    have hsz : w.heap.size ≤ w1.heap.size := hgrow.size
    have hb1 : Below B W0 w1 := hbelow.grown hgrow (by have := hown.2; omega) (fun g hg => by have := (hown.1.lt g hg).1; omega)
    rcases hown'.2 with ⟨_, h0⟩ | ⟨g, cap, cur, hv, h1, h2, h3, h4, h5, h6⟩
    · omega
    · subst hv
      rw [← hlen1] at hown'
      have hfin : OwnN k E base w1 (some ⟨g, 0, none⟩) cap (l ++ [x0]) := ⟨by rw [List.map_append, hlen1]; rw [hlen1] at hown'; exact hown', by have := hown.2; omega⟩
      exact hK _ _ (h (some ⟨g, 0, none⟩) cap w1 hfin hb1)
end

/-- A slice of numbers that comes in. -/
theorem open_nums {H : Type} {enc : TypeId × Value → H} {P : Program} {W : World} {t e : TypeId} {k : IntKind} {base : Nat} {v : Value} {d : DataW H} {ps : List MemPlace}
    (ht : P.underlying t = some (.slice e)) (he : P.underlying e = some (.int k)) (hc : P.cellsOf e = 1)
    (hval : Value.okWide P W .any base t v) (h : DataW.Trod enc P W 0 (fun _ => true) true t v d ps) :
    ∃ (A : Option Addr) (n cap : Nat) (zs : List Int), v = .slice A n cap ∧ n ≤ cap ∧ cap ≤ maxLen ∧ zs.length = n ∧ Nums k W A zs ∧ (∀ z ∈ zs, (Lit.int k z).wf = true) := by
  obtain ⟨a0, len, cap, rfl⟩ := okWide_slice ht hval
  obtain ⟨fuel, hf⟩ := h
  rcases open_ints ht he hc hf with ⟨hcs, hx⟩ | ⟨a, len', cap', zs, hcs, _, hl, hm, hz, hx, hcell, hwz⟩
  · simp [Value.cells] at hcs
    obtain ⟨rfl, rfl, rfl⟩ := hcs
    exact ⟨none, 0, 0, [], rfl, Nat.le_refl _, Nat.zero_le _, rfl, Or.inl rfl, by simp⟩
  · simp [Value.cells] at hcs
    obtain ⟨rfl, rfl, rfl⟩ := hcs
    simp only [if_true] at hz
    have hlen : (zs.take len).length = len := by rw [List.length_take]; omega
    refine ⟨some a, len, cap, zs.take len, rfl, hl, hm, hlen, ?_, fun z hz => hwz z (List.mem_of_mem_take hz)⟩
    by_cases h0 : len = 0
    · exact Or.inl (List.eq_nil_of_length_eq_zero (by omega))
    · obtain ⟨b, off, spot⟩ := a
      have hspot : spot = none := by simpa [Addr.add] using World.cell?_spot (hcell 0 (by omega))
      subst hspot
      refine Or.inr ⟨b, off, rfl, World.block_lt_of_cell? W ⟨b, off, none⟩ (u := .int k (zs.getD 0 0)) (by simpa [Addr.add] using hcell 0 (by omega)), fun i hi => ?_⟩
      have hi' : i < len := by omega
      rw [← add_plain, hcell i (by omega)]
      simp [List.getD, hi']
end Go.Proofs.Ytefncobjndhhdaa
