/- Texts of this proof, merged: ArrEq, Mem4, Mark, DigTo, MacMath, Mac, Mac2, AppParts. -/
import Derived.Test.YtpglhkjgcahdbaaDoorQ3
import Derived.ChangeKeysEq
import Derived.Test.YtpglhkjgcahdbaaDoorQ2
import Derived.Laws.BytesArg
import Derived.Laws.IdiomStrings
import Derived.Test.YtpglhkjgcahdbaaDoorQ4
import Derived.Outline
import Derived.Deep.Cut
import Derived.Test.YtpglhkjgcahdbaaDoorQ1
import Derived.Laws.AppendOwn
import Derived.Laws.OwnMore
/- Arrays of numbers: when two are equal. No program in it. -/
namespace Go.Proofs.YtpglhkjgcahdbaaDoor
open Go.ChangeShapes Go.WideShapes Go.ChangeAt Go.RowKit
section
variable {P : Program} {T e : TypeId} {n : Nat} {k : IntKind}
theorem part_int (he : P.underlying e = some (.int k)) (W : World) (x : List Int) (i : Nat) (hi : i < x.length) : (part e (nrow k x).toArray (i * 1)).run P W = .ok (.int k (x.getD i 0)) W := by
  have hs : (isAgg e).run P W = .ok false W := by
    unfold isAgg
    simp only [Sem.run_bind, run_underlying he, Result.andThen_ok, Sem.run_pure]
  have hc := ncs_at k x i hi
  unfold ncs at hc
  unfold part
  rw [Nat.mul_one]
  simp only [Sem.run_bind, hs, Result.andThen_ok, Bool.false_eq_true, if_false, hc, Sem.run_pure]
theorem items_ints (he : P.underlying e = some (.int k)) (W : World) (d : Nat) (x y : List Int) : ∀ is : List Nat, (∀ i ∈ is, i < x.length ∧ i < y.length) → (Op.eqItems (d + 1) e 1 (nrow k x).toArray (nrow k y).toArray is).run P W = .ok (decide (∀ i ∈ is, x.getD i 0 = y.getD i 0)) W
  | [], _ => by simp [Op.eqItems]
  | i :: is, h => by
    have hx := part_int he W x i (h i (List.mem_cons_self ..)).1
    have hy := part_int he W y i (h i (List.mem_cons_self ..)).2
    have ih := items_ints he W d x y is (fun j hj => h j (List.mem_cons_of_mem _ hj))
    have hq : (Op.equalIn (d + 1) e (.int k (x.getD i 0)) (.int k (y.getD i 0))).run P W = .ok (x.getD i 0 == y.getD i 0) W := by
      simp [Op.equalIn, Sem.run_bind, run_underlying he]
    simp only [Op.eqItems, Sem.run_bind, hx, hy, hq, ih, Result.andThen_ok]
    by_cases hb : x.getD i 0 = y.getD i 0
    · rw [show (x.getD i 0 == y.getD i 0) = true from beq_iff_eq.2 hb]
      simp only [Bool.not_true, Bool.false_eq_true, if_false, ih]
      congr 1
      simp only [List.forall_mem_cons, hb, true_and]
    · rw [show (x.getD i 0 == y.getD i 0) = false from beq_eq_false_iff_ne.2 hb]
      simp only [Bool.not_false, if_true, Sem.run_pure]
      congr 1
      simp only [List.forall_mem_cons, hb, false_and, decide_false]
theorem same_getD {x y : List Int} (hx : x.length = n) (hy : y.length = n) : (∀ i ∈ List.range n, x.getD i 0 = y.getD i 0) ↔ x = y := by
  constructor
  · intro h
    apply List.ext_getElem (by omega)
    intro i h1 h2
    have := h i (List.mem_range.2 (by omega))
    simpa [List.getD, h1, h2] using this
  · rintro rfl _ _
    rfl
/-- Two arrays of numbers are equal just if they have the same numbers. -/
theorem eql_ints (hu : P.underlying T = some (.array n e)) (he : P.underlying e = some (.int k)) (hi : (P.info? e).isSome = true) (hc : P.cellsOf e = 1) (W : World) (x y : List Int) (hx : x.length = n) (hy : y.length = n) :
    (Op.equalIn 10000 T (.agg (nrow k x).toArray) (.agg (nrow k y).toArray)).run P W = .ok (decide (x = y)) W := by
  obtain ⟨i, hi⟩ := Option.isSome_iff_exists.1 hi
  rw [show (10000 : Nat) = 9999 + 1 from rfl, run_equalIn_array W 9999 _ _ hu hi, hc, show (9999 : Nat) = 9998 + 1 from rfl, items_ints he W 9998 x y _ (fun i h => ⟨by have := List.mem_range.1 h; omega, by have := List.mem_range.1 h; omega⟩)]
  congr 1
  exact decide_eq_decide.2 (same_getD hx hy)
end
end Go.Proofs.YtpglhkjgcahdbaaDoor
/- Append of a row of numbers that lies anywhere, to a slice of the call's own; a row of bytes as a text; one block of the caller's that a call writes. No program in it. -/
namespace Go.Proofs.YtpglhkjgcahdbaaDoor
open Go.ChangeShapes Go.WideShapes Go.ChangeAt Go.RowKit
section
variable {k : IntKind} {w w' : World} {A : Option Addr} {l : List Int} {E : TypeId} {base c : Nat}
theorem alloc_cell0 (W : World) (z : Int) (t : TypeId) (g : Nat) (hg : g = W.heap.size) : (W.alloc (.cells #[.int k z] t)).cell? ⟨g, 0, none⟩ = some (.int k z) := by
  subst hg
  rw [cell_of_row _ _ _ _ _ _ (MapKept.heap_alloc W (.cells #[.int k z] t)).1]
  rfl
/-- An empty row that is written out ('[]int{}') is the call's own. -/
theorem OwnN.empty {W : World} (hb : base ≤ W.heap.size) : OwnN k E base (W.alloc (.cells #[] E)) (some ⟨W.heap.size, 0, none⟩) 0 [] :=
  ⟨⟨rfl, Or.inr ⟨W.heap.size, 0, #[], rfl, hb, (MapKept.heap_alloc W _).1, Nat.le_refl _, Nat.zero_le _, rfl, rfl⟩⟩, by simp; omega⟩
theorem OwnN.lower {b2 : Nat} (h : OwnN k E base w A c l) (hb : b2 ≤ base) : OwnN k E b2 w A c l := by
  refine ⟨⟨h.1.1, ?_⟩, by have := h.2; omega⟩
  rcases h.1.2 with h1 | ⟨g, cap, cur, hv, hg, r⟩
  · exact Or.inl h1
  · exact Or.inr ⟨g, cap, cur, hv, by omega, r⟩
theorem OwnN.block' {a : Addr} (h : OwnN k E base w A c l) (hA : A = some a) : base ≤ a.block ∧ a.block < w.heap.size := by
  subst hA
  rcases h.1.2 with ⟨h1, _⟩ | ⟨g, cap, cur, hv, hb, hh, _⟩
  · cases h1
  · injection hv with hA
    injection hA with hA
    subst hA
    refine ⟨hb, ?_⟩
    rcases Nat.lt_or_ge g w.heap.size with h1 | h1
    · exact h1
    · rw [Array.getElem?_eq_none h1] at hh; cases hh
theorem OwnN.setRow {g : Nat} {t : TypeId} {cs : Array Value} (h : OwnN k E base w A c l) (hg : g < base) : OwnN k E base (setRow w g t cs) A c l := by
  refine ⟨⟨h.1.1, ?_⟩, by rw [setRow_size]; exact h.2⟩
  rcases h.1.2 with h1 | ⟨b, cap, cur, hv, hb, hh, r⟩
  · exact Or.inl h1
  · exact Or.inr ⟨b, cap, cur, hv, hb, (setRow_far (by omega)).trans hh, r⟩
/-- 'append' of a row of numbers. -/
theorem wp_append_row {P : Program} {Q : Exit → Act → World → Prop} {K : Act → World → Prop} {o : Oper} {a : Act} (s x : Operand) (t : TypeId)
    (ho : o.op = .call { callee := .builtin .append, args := #[s, x], argTypes := #[t, t] })
    (i : TypeInfo) (bytes : Nat) (ht : P.underlying t = some (.slice E)) (hi : P.info? E = some i) (hz : i.zero = some (.int k 0)) (hsize : i.size = 1) (hby : i.bytes = bytes) (hb8 : bytes ≤ 8)
    (n : Nat) (hn : l.length = n) (hs : a.eval s = .slice A n c) (hown : OwnN k E base w A c l)
    (ad : Addr) (m cc : Nat) (xs : List Int) (hx : a.eval x = .slice (some ad) m cc) (hm : xs.length = m) (hcell : Nums k w (some ad) xs) (hlen : l.length + m < 17592186044415)
    (B : Nat) (W0 : World) (hB : B ≤ base) (hbelow : Below B W0 w)
    (h : ∀ A' c' w', OwnN k E base w' A' c' (l ++ xs) → Below B W0 w' → K (a.put o.dst (.slice A' (n + m) c')) w') : o.wp P a w K Q := by
  subst hn
  subst hm
  refine wp_append_own w s x t ho base E i (.int k 0) 1 bytes ht hi hz hsize hby rfl (by decide) _ _ _ hs hown.1 ad xs.length cc (xs.map (Value.int k)) hx (by simp) ?_ ?_ ?_ ?_ hown.2 ?_
  · intro j u hj
    have hj' : j < xs.length := by
      have := (List.getElem?_eq_some_iff.1 hj).1
      simpa using this
    rcases hcell with h0 | ⟨b', off, h1, h2, h3⟩
    · rw [h0] at hj'; cases hj'
    · injection h1 with h1
      subst h1
      have e : Value.int k (xs.getD j 0) = u := by simpa [List.getD, hj'] using hj
      rw [← e, add_plain]
      exact h3 j hj'
  · intro u hu
    simp only [List.mem_map] at hu
    obtain ⟨z, _, rfl⟩ := hu
    rfl
  · unfold maxLen; omega
  · have : (l.length + xs.length) * bytes ≤ (l.length + xs.length) * 8 := Nat.mul_le_mul_left _ hb8
    omega
  · intro v' w1 hown' hgrow _
    have hlen1 : (l ++ xs).length = l.length + xs.length := by simp
    have hsz : w.heap.size ≤ w1.heap.size := hgrow.size
    have hb1 : Below B W0 w1 := hbelow.grown hgrow (by have := hown.2; omega) (fun g hg => by have := (hown.1.lt g hg).1; omega)
    rcases hown'.2 with ⟨h1, h0⟩ | ⟨g, cap, cur, hv, h1, h2, h3, h4, h5, h6⟩
    · subst h1
      have e1 : l = [] := List.eq_nil_of_length_eq_zero (by omega)
      have e2 : xs = [] := List.eq_nil_of_length_eq_zero (by omega)
      subst e1; subst e2
      exact h none 0 w1 (OwnN.nil (by have := hown.2; omega)) hb1
    · subst hv
      rw [← hlen1] at hown'
      have hfin : OwnN k E base w1 (some ⟨g, 0, none⟩) cap (l ++ xs) := ⟨by rw [List.map_append, hlen1]; rw [hlen1] at hown'; exact hown', by have := hown.2; omega⟩
      exact h (some ⟨g, 0, none⟩) cap w1 hfin hb1
theorem wpList_append_row {P : Program} {Q : Exit → Act → World → Prop} {ops : Array Oper} {rest : List Oper} {o : Oper} {a : Act} (hgd : Region.wanted o (yielded ops a.tmps) = true) (s x : Operand) (t : TypeId)
    (ho : o.op = .call { callee := .builtin .append, args := #[s, x], argTypes := #[t, t] })
    (i : TypeInfo) (bytes : Nat) (ht : P.underlying t = some (.slice E)) (hi : P.info? E = some i) (hz : i.zero = some (.int k 0)) (hsize : i.size = 1) (hby : i.bytes = bytes) (hb8 : bytes ≤ 8)
    (n : Nat) (hn : l.length = n) (hs : a.eval s = .slice A n c) (hown : OwnN k E base w A c l)
    (ad : Addr) (m cc : Nat) (xs : List Int) (hx : a.eval x = .slice (some ad) m cc) (hm : xs.length = m) (hcell : Nums k w (some ad) xs) (hlen : l.length + m < 17592186044415)
    (B : Nat) (W0 : World) (hB : B ≤ base) (hbelow : Below B W0 w)
    (h : ∀ A' c' w', OwnN k E base w' A' c' (l ++ xs) → Below B W0 w' → wpList P ops Q rest (a.put o.dst (.slice A' (n + m) c')) w') : wpList P ops Q (o :: rest) a w :=
  BigFrame.wpList_want hgd fun _ hK => wp_append_row s x t ho i bytes ht hi hz hsize hby hb8 n hn hs hown ad m cc xs hx hm hcell hlen B W0 hB hbelow fun A' c' w' h1 h2 => hK _ _ (h A' c' w' h1 h2)

/-- A row of bytes as a text. -/
theorem text_of_nums {P : Program} {src dst e : TypeId} (hs : P.underlying src = some (.slice e)) (he : P.underlying e = some (.int .u8)) (hd : P.underlying dst = some .string) {n cap : Nat} {xs : List Int} (hN : Nums .u8 w A xs) (hn : xs.length = n) :
    (convert src dst (.slice A n cap)).run P w = .ok (.string (strOfNums xs)) w := by
  subst hn
  rcases hN with rfl | ⟨b, off, rfl, hlt, hc⟩
  · have e0 : strOfNums [] = ⟨#[]⟩ := rfl
    rw [e0]
    cases A with
    | none => exact run_convert_bytes_nil w src e hs he 0 cap dst hd
    | some a => exact run_convert_bytes_back w src dst e a cap [] hs he hd (fun j hj => by cases hj)
  · exact run_convert_bytes_arg w src e hs he b off xs.length cap xs rfl hc dst hd
end

/-- All that was there, but block g, is as it was. -/
def But (g : Nat) (w w' : World) : Prop := (∀ b, b < w.heap.size → b ≠ g → w'.heap[b]? = w.heap[b]?) ∧ w.heap.size ≤ w'.heap.size
theorem But.of_below {g : Nat} {w w' : World} (h : Below w.heap.size w w') : But g w w' := ⟨fun b hb _ => h.block b hb, h.size⟩
theorem But.trans {g : Nat} {a b c : World} (h : But g a b) (k : But g b c) : But g a c :=
  ⟨fun x hx hg => (k.1 x (Nat.lt_of_lt_of_le hx h.2) hg).trans (h.1 x hx hg), Nat.le_trans h.2 k.2⟩
theorem But.set {g : Nat} {w : World} {t : TypeId} {cs : Array Value} : But g w (setRow w g t cs) := ⟨fun _ _ hb => setRow_far hb, by rw [setRow_size]; exact Nat.le_refl _⟩
theorem But.nums {g : Nat} {w w' : World} (h : But g w w') {k : IntKind} {A : Option Addr} {zs : List Int} (hN : Nums k w A zs) (hA : ∀ a, A = some a → a.block ≠ g) : Nums k w' A zs := by
  rcases hN with rfl | ⟨b, off, h1, h2, h3⟩
  · exact Or.inl rfl
  · refine Or.inr ⟨b, off, h1, Nat.lt_of_lt_of_le h2 h.2, fun i hi => ?_⟩
    rw [← h3 i hi]
    unfold World.cell?
    simp only [h.1 b h2 (hA _ h1)]
end Go.Proofs.YtpglhkjgcahdbaaDoor
/- Bytes of a constant text: the new row is marked behind its last cell, and is xs1 it was. No program in it. -/
namespace Go.Proofs.YtpglhkjgcahdbaaDoor
open Go.ChangeShapes Go.WideShapes Go.ChangeAt Go.RowKit
section
variable {P : Program} {S e : TypeId}
theorem mark_new (hu : P.underlying S = some (.slice e)) (he : P.underlying e = some (.int .u8)) (W : World) (cs : Array Value) (n : Nat) (hn : cs.size = n) :
    (convert S S (.slice (some ⟨W.heap.size, 0, none⟩) n n)).run P (W.alloc (.cells cs e)) = .ok (.slice (some ⟨W.heap.size, 0, none⟩) n n) (W.alloc (.cells cs e (n, n + 1))) := by
  subst hn
  have hh : (W.alloc (.cells cs e)).heap[W.heap.size]? = some (.cells cs e) := (MapKept.heap_alloc W _).1
  have hsh : (W.alloc (.cells cs e)).shape? W.heap.size = some (e, cs.size) := by
    unfold World.shape?
    rw [hh]
  have hfr : (W.alloc (.cells cs e)).freeze ⟨W.heap.size, cs.size, none⟩ 1 = W.alloc (.cells cs e (cs.size, cs.size + 1)) := by
    refine world_eq (fun k => ?_) rfl rfl rfl rfl
    unfold World.freeze
    rw [if_neg (by decide)]
    show ((W.heap.push _).modify W.heap.size _)[k]? = (W.heap.push _)[k]?
    rw [Array.getElem?_modify]
    by_cases h : W.heap.size = k
    · subst h; simp
    · rw [if_neg h, Array.getElem?_push, Array.getElem?_push, if_neg (by omega), if_neg (by omega)]
  simp [convert, run_underlying hu, run_underlying he, markStringish, hsh]
  exact hfr
end
theorem nums_new_marked (W : World) (l : List Int) (t : TypeId) (cs : Array Value) (g : Nat) (m : Nat × Nat) (hg : g = W.heap.size) (hcs : cs = (nrow .u8 l).toArray) : Nums .u8 (W.alloc (.cells cs t m)) (some ⟨g, 0, none⟩) l := by
  subst hcs; subst hg
  refine Or.inr ⟨W.heap.size, 0, rfl, by simp, fun i hi => ?_⟩
  have hh : (W.alloc (.cells (nrow .u8 l).toArray t m)).heap[W.heap.size]? = some (.cells (nrow .u8 l).toArray t m) := (MapKept.heap_alloc W _).1
  have hc := ncs_at .u8 l i hi
  unfold ncs at hc
  unfold World.cell?
  simp only [hh, Nat.zero_add]
  exact hc
theorem row_new {W : World} {cs : Array Value} {t : TypeId} {m : Nat × Nat} : (W.alloc (.cells cs t m)).heap[W.heap.size]? = some (.cells cs t m) := (MapKept.heap_alloc W _).1
theorem parts_one {W : World} {A : Option Addr} {cap n g : Nat} {bs : List Int} {t : TypeId} (hg : g = W.heap.size) (hN : Nums .u8 W A bs) (hn : bs.length = n) (hl : n ≤ cap) (hm : cap ≤ maxLen) : Parts (W.alloc (.cells #[.slice A n cap] t)) (some ⟨g, 0, none⟩) [⟨A, cap, bs⟩] := by
  subst hg; subst hn
  refine parts_of_row (t := t) row_new ?_
  intro p hp
  simp only [List.mem_cons, List.not_mem_nil, or_false] at hp
  subst hp
  exact ⟨hN.alloc _, hl, hm⟩
theorem parts_three {W : World} {A B C : Option Addr} {ca cb cc na nb nc g : Nat} {xs1 bs cs : List Int} {t : TypeId} (hg : g = W.heap.size) (hA : Nums .u8 W A xs1) (ha : xs1.length = na) (hla : na ≤ ca) (hma : ca ≤ maxLen) (hB : Nums .u8 W B bs) (hb : bs.length = nb) (hlb : nb ≤ cb) (hmb : cb ≤ maxLen)
    (hC : Nums .u8 W C cs) (hc : cs.length = nc) (hlc : nc ≤ cc) (hmc : cc ≤ maxLen) : Parts (W.alloc (.cells #[.slice A na ca, .slice B nb cb, .slice C nc cc] t)) (some ⟨g, 0, none⟩) [⟨A, ca, xs1⟩, ⟨B, cb, bs⟩, ⟨C, cc, cs⟩] := by
  subst hg; subst ha; subst hb; subst hc
  refine parts_of_row (t := t) row_new ?_
  intro p hp
  simp only [List.mem_cons, List.not_mem_nil, or_false] at hp
  rcases hp with rfl | rfl | rfl
  · exact ⟨hA.alloc _, hla, hma⟩
  · exact ⟨hB.alloc _, hlb, hmb⟩
  · exact ⟨hC.alloc _, hlc, hmc⟩
theorem parts_four {W : World} {A B C D : Option Addr} {ca cb cc cd na nb nc nd g : Nat} {xs1 bs cs ds : List Int} {t : TypeId} (hg : g = W.heap.size) (hA : Nums .u8 W A xs1) (ha : xs1.length = na) (hla : na ≤ ca) (hma : ca ≤ maxLen) (hB : Nums .u8 W B bs) (hb : bs.length = nb) (hlb : nb ≤ cb) (hmb : cb ≤ maxLen)
    (hC : Nums .u8 W C cs) (hc : cs.length = nc) (hlc : nc ≤ cc) (hmc : cc ≤ maxLen) (hD : Nums .u8 W D ds) (hd : ds.length = nd) (hld : nd ≤ cd) (hmd : cd ≤ maxLen) : Parts (W.alloc (.cells #[.slice A na ca, .slice B nb cb, .slice C nc cc, .slice D nd cd] t)) (some ⟨g, 0, none⟩) [⟨A, ca, xs1⟩, ⟨B, cb, bs⟩, ⟨C, cc, cs⟩, ⟨D, cd, ds⟩] := by
  subst hg; subst ha; subst hb; subst hc; subst hd
  refine parts_of_row (t := t) row_new ?_
  intro p hp
  simp only [List.mem_cons, List.not_mem_nil, or_false] at hp
  rcases hp with rfl | rfl | rfl | rfl
  · exact ⟨hA.alloc _, hla, hma⟩
  · exact ⟨hB.alloc _, hlb, hmb⟩
  · exact ⟨hC.alloc _, hlc, hmc⟩
  · exact ⟨hD.alloc _, hld, hmd⟩
theorem parts_two {W : World} {A B : Option Addr} {ca cb na nb g : Nat} {xs1 bs : List Int} {t : TypeId} (hg : g = W.heap.size) (hA : Nums .u8 W A xs1) (ha : xs1.length = na) (hla : na ≤ ca) (hma : ca ≤ maxLen) (hB : Nums .u8 W B bs) (hb : bs.length = nb) (hlb : nb ≤ cb) (hmb : cb ≤ maxLen) :
    Parts (W.alloc (.cells #[.slice A na ca, .slice B nb cb] t)) (some ⟨g, 0, none⟩) [⟨A, ca, xs1⟩, ⟨B, cb, bs⟩] := by
  subst hg; subst ha; subst hb
  refine parts_of_row (t := t) row_new ?_
  intro p hp
  simp only [List.mem_cons, List.not_mem_nil, or_false] at hp
  rcases hp with rfl | rfl
  · exact ⟨hA.alloc _, hla, hma⟩
  · exact ⟨hB.alloc _, hlb, hmb⟩
theorem parts_nil (W : World) (A : Option Addr) : Parts W A [] := Or.inl rfl
end Go.Proofs.YtpglhkjgcahdbaaDoor
/- The digest's contract as the laws use it. -/
namespace Go.Proofs.YtpglhkjgcahdbaaDoor
open Go.ChangeShapes Go.WideShapes Go.ChangeAt Go.RowKit
theorem sum_to (w : World) (A : Option Addr) (np cap : Nat) (ps : List Pt) (l r : List Int) (hf : flat ps = l) (hr : Sha.sha l = r) (hnp : ps.length = np) (hP : Parts w A ps) (hlen : l.length ≤ 1000000) (hnp6 : np ≤ 1000000) (hwf : ∀ z ∈ l, 0 ≤ z ∧ z < 256) (ht : Kt w) :
    Calls Tryd.prog 31 #[.slice A np cap] w fun e w' => e = .returned (.agg (nrow .u8 r).toArray) ∧ Below w.heap.size w w' := by
  subst hf; subst hr
  exact sum_any w A np cap ps hnp hP hlen hnp6 hwf ht
theorem sha_len (l : List Int) : (Sha.sha l).length = 32 := Sha.len_lay _
/-- What a sum is stored as in a new variable. -/
theorem sha_new (r : List Int) (hr : r.length = 32) (W : World) : (storeCells ⟨W.heap.size, 0, none⟩ (nrow .u8 r) 0).run Tryd.prog (W.alloc (.cells (ncs .u8 z32) b32T)) = .ok () (W.alloc (.cells (nrow .u8 r).toArray b32T)) := by
  have := run_storeCells_new (P := Tryd.prog) W b32T (ncs .u8 z32) (nrow .u8 r).toArray (by rw [info_b32]; simp [nrow_len, hr]) (by rw [ncs_size]; simp [nrow_len, hr]; rfl) (all_one (nrow_one _ _))
  simpa using this
theorem eql_b32 (W : World) (x y : List Int) (hx : x.length = 32) (hy : y.length = 32) : (Op.equalIn 10000 b32T (.agg (nrow .u8 x).toArray) (.agg (nrow .u8 y).toArray)).run Tryd.prog W = .ok (decide (x = y)) W :=
  eql_ints Tryd.underlying40 Tryd.underlying5 (by kernel_rfl) (by kernel_rfl) W x y hx hy
theorem nums_row {W : World} {g : Nat} {t : TypeId} {l : List Int} (h : W.heap[g]? = some (.cells (nrow .u8 l).toArray t)) : Nums .u8 W (some ⟨g, 0, none⟩) l :=
  Or.inr ⟨g, 0, rfl, row_lt h, fun i hi => by rw [Nat.zero_add]; exact (row_cells h i).trans (ncs_at .u8 l i hi)⟩
end Go.Proofs.YtpglhkjgcahdbaaDoor
/- The digest by a key as a plain function. No program in it. -/
namespace Go.Proofs.YtpglhkjgcahdbaaDoor
namespace Mac
open Sha
def pad64 (l : List Int) : List Int := l ++ List.replicate (64 - l.length) 0
def blk (key : List Int) : List Int := pad64 (if 64 < key.length then sha key else key)
def xor8 (a b : Int) : Int := bits .xor .u8 a b
def mask (l : List Int) (m : Int) : List Int := l.map fun x => xor8 x m
def hmac (key msg : List Int) : List Int := sha (mask (blk key) 92 ++ sha (mask (blk key) 54 ++ msg))
theorem xor8_bd (a b : Int) : 0 ≤ xor8 a b ∧ xor8 a b < 256 := by
  unfold xor8
  show 0 ≤ IntKind.u8.wrap _ ∧ IntKind.u8.wrap _ < 256
  rw [IntKind.wrap_u8]; omega
theorem len_pad64 (l : List Int) (h : l.length ≤ 64) : (pad64 l).length = 64 := by
  rw [pad64, List.length_append, List.length_replicate]; omega
theorem len_sha (l : List Int) : (sha l).length = 32 := len_lay _
theorem len_blk (key : List Int) : (blk key).length = 64 := by
  unfold blk
  split
  · exact len_pad64 _ (by rw [len_sha]; omega)
  · exact len_pad64 _ (by omega)
theorem len_mask (l : List Int) (m : Int) : (mask l m).length = l.length := by simp [mask]
theorem mask_wf (l : List Int) (m : Int) : ∀ z ∈ mask l m, 0 ≤ z ∧ z < 256 := by
  intro z hz
  simp only [mask, List.mem_map] at hz
  obtain ⟨x, _, rfl⟩ := hz
  exact xor8_bd x m
theorem byte_bd (x : W) (n : Nat) : 0 ≤ byte x n ∧ byte x n < 256 := by unfold byte; omega
theorem sha_wf (l : List Int) : ∀ z ∈ sha l, 0 ≤ z ∧ z < 256 := by
  intro z hz
  simp only [sha, lay, List.mem_map] at hz
  obtain ⟨i, _, rfl⟩ := hz
  exact byte_bd _ _
theorem app_wf {a b : List Int} (ha : ∀ z ∈ a, 0 ≤ z ∧ z < 256) (hb : ∀ z ∈ b, 0 ≤ z ∧ z < 256) : ∀ z ∈ a ++ b, 0 ≤ z ∧ z < 256 := by
  intro z hz
  rcases List.mem_append.1 hz with h | h
  · exact ha z h
  · exact hb z h
theorem mask_at (l : List Int) (m : Int) (i : Nat) (h : i < l.length) : (mask l m).getD i 0 = xor8 (l.getD i 0) m := by
  simp [mask, List.getD, h]
theorem hmac_len (key msg : List Int) : (hmac key msg).length = 32 := len_sha _
end Mac
end Go.Proofs.YtpglhkjgcahdbaaDoor
/- What package mac's functions come to. -/
namespace Go.Proofs.YtpglhkjgcahdbaaDoor
open Go.ChangeShapes Go.WideShapes Go.ChangeAt Go.RowKit
abbrev b64T : TypeId := 56
theorem info_b64 : (Tryd.prog.info? b64T).map (·.size) = some 64 := by kernel_rfl
def z64 : List Int := List.replicate 64 0
theorem zero_b64 (W : World) : (zeroValue b64T).run Tryd.prog W = .ok (.agg (nrow .u8 z64).toArray) W := by kernel_rfl
theorem index64 (W : World) (l : List Int) (k : Nat) (hl : l.length = 64) (hk : k < 64) : (Instr.index b64T (.agg (nrow .u8 l).toArray) (.int .i64 (k : Int))).run Tryd.prog W = .ok (.int .u8 (l.getD k 0)) W := by
  have hp := part_int (P := Tryd.prog) Tryd.underlying5 W l k (by rw [hl]; exact hk)
  have hz : (sizeOf 5).run Tryd.prog W = .ok 1 W := by kernel_rfl
  unfold Instr.index
  simp only [asIntOf, Sem.run_bind, Sem.run_pure, Result.andThen_ok, run_underlying Tryd.underlying56]
  rw [if_pos ⟨by omega, by omega⟩]
  simp only [Sem.run_bind, hz, Result.andThen_ok, Int.toNat_natCast, hp]
theorem make64 (W : World) : (Instr.makeSlice 22 (.int .i64 64) (.int .i64 64)).run Tryd.prog W = .ok (.slice (some ⟨W.heap.size, 0, none⟩) 64 64) (W.alloc (.cells (ncs .u8 z64) 5)) := by
  obtain ⟨i0, hi, hz0, hz1, hz2⟩ := info_parts infoB
  have := run_make (P := Tryd.prog) W 22 5 i0 _ Tryd.underlying22 hi hz0 .i64 .i64 64 64 (by omega) (Int.le_refl _) (by rw [hz2]; omega) (by omega)
  rw [hz1, Nat.mul_one, show (Value.int .u8 0).cells = #[.int .u8 0] from rfl, made_zero] at this
  exact this
set_option maxRecDepth 100000 in
set_option maxHeartbeats 1000000 in
theorem masked_any (l : List Int) (hl : l.length = 64) (m : Int) (w : World) :
    Calls Tryd.prog 30 #[.agg (nrow .u8 l).toArray, .int .u8 m] w fun e w' => e = .returned (.slice (some ⟨w.heap.size + 1, 0, none⟩) 64 64) ∧ w'.heap[w.heap.size + 1]? = some (.cells (nrow .u8 (Mac.mask l m)).toArray 5) ∧ Below w.heap.size w w' := by
  have Hl := Lib.hid hl
  have HL := Lib.hid (show (nrow .u8 l).length = 64 by rw [nrow_len]; exact hl)
  have mk := make64
  clear hl
  obtain ⟨f0, f1, f2⟩ := two_new (w := w) _ (rfl : (w.alloc (.cells (nrow .u8 l).toArray b64T)).alloc (.cells (ncs .u8 z64) 5) = _)
  have F := Lib.hid (And.intro f0 (And.intro f1 f2))
  clear f0 f1 f2
  go_enter Tryd.func30, Tryd.ntmps30
  go_wp2_with (first
    | ((with_reducible refine wpl_arr Tryd.underlying56 info_b64 ?_ (.tmp 2) ?_ w.heap.size (nrow .u8 l) HL.out ?_ F.out.1 ?_); (rfl); (rfl); (rfl))
    )
  have R0 := F.out.2.1
  have B0 := F.out.2.2
  generalize (w.alloc (.cells (nrow .u8 l).toArray b64T)).alloc (.cells (ncs .u8 z64) 5) = W0 at R0 B0 ⊢
  clear F mk
  go_loopw [10] (fun i wr => ∃ k : Nat, k ≤ 64 ∧ i = .int .i64 k ∧ wr.heap[w.heap.size + 1]? = some (.cells (ncs .u8 (Sha.filled (Mac.mask l m) k 64)) 5) ∧ Below w.heap.size w wr) (fun i _ => 64 - (intOf i).toNat)
  case atStart => exact ⟨0, by omega, rfl, R0, B0⟩
  case round =>
    obtain ⟨k, hk, rfl, R, hB⟩ := hrel
    clear R0 B0
    by_cases hlt : k < 64
    · have q1 : (k : Int) < 64 := by omega
      have q0 : (0 : Int) ≤ (k : Int) := by omega
      have hlm : (Mac.mask l m).length = 64 := by rw [Mac.len_mask]; exact Hl.out
      have HE := Lib.hid (show ncs .u8 (Sha.filled (Mac.mask l m) (k + 1) 64) = (ncs .u8 (Sha.filled (Mac.mask l m) k 64)).setIfInBounds k (.int .u8 (bits .xor .u8 (l.getD k 0) m)) by
        rw [ncs_set, ← Sha.filled_set _ _ _ (by rw [hlm]; exact hlt) hlt, Mac.mask_at l m k (by rw [Hl.out]; exact hlt)]; rfl)
      have M0 := ncs_at .u8 (Sha.filled (Mac.mask l m) k 64) k (by rw [Sha.len_filled _ _ _ (by rw [hlm]; omega) (by omega)]; exact hlt)
      have M1 := fun W => index64 W l k Hl.out hlt
      generalize (Sha.filled (Mac.mask l m) k 64).getD k 0 = y at M0
      generalize ncs .u8 (Sha.filled (Mac.mask l m) k 64) = L at R M0 HE
      generalize l.getD k 0 = x at M1 HE
      obtain ⟨s0, s1, d0, d1, f0, f1, z1⟩ := rows1 R
      clear hlm
      go_wp2
      go_roundw
      case rel =>
        refine ⟨k + 1, by omega, by go_num, ?_, setRow_below hB (by omega)⟩
        rw [HE.out]
        exact row_written R
      case measure => simp [intOf]; omega
    · obtain rfl : k = 64 := by omega
      rw [Sha.filled_all _ _ (by rw [Mac.len_mask]; exact Hl.out)] at R
      rw [show ((64 : Nat) : Int) = 64 from rfl]
      go_wp2
      go_ret
      exact ⟨rfl, R, hB⟩
end Go.Proofs.YtpglhkjgcahdbaaDoor
/- A key's block. -/
namespace Go.Proofs.YtpglhkjgcahdbaaDoor
open Go.ChangeShapes Go.WideShapes Go.ChangeAt Go.RowKit
theorem splice_zero (l : List Int) (h : l.length ≤ 64) : splice (nrow .u8 z64) 0 (nrow .u8 l) = nrow .u8 (Mac.pad64 l) := by
  unfold splice nrow Mac.pad64 z64
  simp only [List.take_zero, List.nil_append, Nat.zero_add, List.length_map, List.map_append, List.map_replicate, List.drop_replicate]
theorem z64_len : (nrow .u8 z64).length = 64 := rfl
theorem pad_len (l : List Int) (h : l.length ≤ 64) : (nrow .u8 (Mac.pad64 l)).length = 64 := by rw [nrow_len]; exact Mac.len_pad64 l h
set_option maxRecDepth 100000 in
set_option maxHeartbeats 1000000 in
theorem keyBlock_short (w : World) (A : Option Addr) (n cap : Nat) (key : List Int) (hn : key.length = n) (hN : Nums .u8 w A key) (h64 : n ≤ 64) :
    Calls Tryd.prog 29 #[.slice A n cap] w fun e w' => e = .returned (.agg (nrow .u8 (Mac.blk key)).toArray) ∧ Below w.heap.size w w' := by
  have z0 := zero_b64
  have Hn := Lib.hid hn
  have HN := Lib.hid hN
  have HB := Lib.hid (show Mac.blk key = Mac.pad64 key by unfold Mac.blk; rw [if_neg (by omega)])
  have HSp := Lib.hid (splice_zero key (by omega))
  have HPl := Lib.hid (pad_len key (by omega))
  obtain ⟨f0, f1, f2⟩ := two_new (w := w) _ (rfl : (w.alloc (.cells (nrow .u8 z64).toArray b64T)).alloc (.cells (nrow .u8 z64).toArray b64T) = _)
  have F := Lib.hid (And.intro f0 (And.intro f1 f2))
  have d64 : ¬ ((64 : Int) < (n : Int)) := by omega
  clear hn hN f0 f1 f2
  go_enter Tryd.func29, Tryd.ntmps29
  go_upto_region 5 with (fail)
  have R0 := F.out.1
  have R1 := F.out.2.1
  have B0 := F.out.2.2
  generalize (w.alloc (.cells (nrow .u8 z64).toArray b64T)).alloc (.cells (nrow .u8 z64).toArray b64T) = W0 at R0 R1 B0 ⊢
  have N0 := Lib.hid (HN.out.below B0)
  clear F z0
  go_wp2_with (first
    | (refine wpList_copy_splice rfl (.tmp 14) (.tmp 15) _ _ rfl 5 (by kernel_rfl) (by kernel_rfl) _ _ _ _ _ _ rfl rfl (w.heap.size + 1) 0 _ b64T R1 (nrow .u8 key) (by rw [nrow_len, Hn.out]; show n = min n 64; omega) (fun h0 => ⟨rfl, nums_source N0.out (by rw [nrow_len] at h0; exact h0)⟩) (by rw [nrow_len, Hn.out, z64_len]; omega) (nrow_one _ _) (w.heap.size + 1) W0 (Below.refl _ _) (Nat.le_refl _) ?_; intro W3 HG3 hB3; rw [nrow_len, Hn.out]; have R3 := Lib.hid (show W3.heap[w.heap.size + 1]? = some (.cells (nrow .u8 (Mac.pad64 key)).toArray b64T) by rw [← HSp.out]; exact HG3.out); have R4 := Lib.hid (row_kept R0 hB3 (by omega)))
    | ((with_reducible refine wpl_arr Tryd.underlying56 info_b64 ?_ (.tmp 3) ?_ (w.heap.size + 1) (nrow .u8 (Mac.pad64 key)) HPl.out ?_ R3.out ?_); (rfl); (rfl); (rfl))
    | ((with_reducible refine wpl_arr_store info_b64 ?_ (.tmp 2) (.tmp 17) ?_ w.heap.size (nrow .u8 (Mac.pad64 key)) (nrow .u8 z64) HPl.out z64_len (nrow_one _ _) ?_ ?_ R4.out ?_); (rfl); (rfl); (rfl); (rfl))
    )
  exact bodyPost_ret (arr_results Tryd.underlying56 info_b64 Tryd.results29 HPl.out rfl (row_written R4.out)) rfl ⟨by rw [HB.out], setRow_below (B0.trans (hB3.mono (by omega))) (Nat.le_refl _)⟩
set_option maxRecDepth 100000 in
set_option maxHeartbeats 1000000 in
theorem keyBlock_long (w : World) (A : Option Addr) (n cap : Nat) (key : List Int) (hn : key.length = n) (hN : Nums .u8 w A key) (h64 : 64 < n) (hc : n ≤ cap) (hm : cap ≤ maxLen) (hlen : n ≤ 1000000) (hwf : ∀ z ∈ key, 0 ≤ z ∧ z < 256) (ht : Kt w) :
    Calls Tryd.prog 29 #[.slice A n cap] w fun e w' => e = .returned (.agg (nrow .u8 (Mac.blk key)).toArray) ∧ Below w.heap.size w w' := by
  have z0 := zero_b64
  have z1 := zero_b32'
  have Hn := Lib.hid hn
  have HN := Lib.hid hN
  have HT := Lib.hid ht
  have Hwf := Lib.hid hwf
  have Hc := Lib.hid (And.intro hc hm)
  obtain ⟨r, hr⟩ : ∃ r, Sha.sha key = r := ⟨_, rfl⟩
  have hr32 : r.length = 32 := by rw [← hr]; exact sha_len _
  have SN := sha_new r hr32
  have L1 : (nrow .u8 r).length = 32 := by rw [nrow_len]; exact hr32
  have Hr := Lib.hid hr
  have HB := Lib.hid (show Mac.blk key = Mac.pad64 r by unfold Mac.blk; rw [if_pos (by omega), hr])
  have HSp := Lib.hid (splice_zero r (by omega))
  have HPl := Lib.hid (pad_len r (by omega))
  have Hlen := Lib.hid (show key.length ≤ 1000000 by omega)
  have Hr32 := Lib.hid hr32
  obtain ⟨f0, f1, f2⟩ := two_new (w := w) _ (rfl : (w.alloc (.cells (nrow .u8 z64).toArray b64T)).alloc (.cells (nrow .u8 z64).toArray b64T) = _)
  have F := Lib.hid (And.intro f0 (And.intro f1 f2))
  have d64 : ((64 : Int) < (n : Int)) := by omega
  clear hn hN f0 f1 f2 ht hwf hc hm hr hr32
  go_enter Tryd.func29, Tryd.ntmps29
  go_upto_region 3 with (fail)
  have R0 := F.out.1
  have R1 := F.out.2.1
  have B0 := F.out.2.2
  generalize (w.alloc (.cells (nrow .u8 z64).toArray b64T)).alloc (.cells (nrow .u8 z64).toArray b64T) = W0 at R0 R1 B0 ⊢
  have P1 := parts_one (t := 55) (cap := cap) (g := W0.heap.size) rfl (HN.out.below B0) Hn.out Hc.out.1 Hc.out.2
  have A1 := (Below.refl W0.heap.size W0).alloc (Nat.le_refl _) (.cells #[.slice A n cap] 22)
  have P1' := parts_one (t := 22) (cap := cap) (g := W0.heap.size) rfl (HN.out.below B0) Hn.out Hc.out.1 Hc.out.2
  have K1 := (HT.out.keep B0 HT.out.2).keep A1 (Nat.lt_of_lt_of_le HT.out.2 B0.size)
  clear F P1
  go_wp2_with fail
  refine (sum_to _ _ 1 1 _ key r (by simp [flat]) Hr.out rfl P1' Hlen.out (by decide) Hwf.out K1).mono ?_
  rintro e w2 ⟨rfl, hB2⟩
  have AB := A1.trans (hB2.mono A1.size)
  have R0 := row_kept R0 AB (row_lt R0)
  have R1 := row_kept R1 AB (row_lt R1)
  have B2 := B0.trans (AB.mono B0.size)
  clear hB2 K1 P1' A1 AB
  go_upto_region 4 with (fail)
  have AN := (Below.refl w2.heap.size w2).alloc (Nat.le_refl _) (.cells (nrow .u8 r).toArray b32T)
  have R0 := row_kept R0 AN (row_lt R0)
  have R1 := row_kept R1 AN (row_lt R1)
  have RR := row_new (W := w2) (cs := (nrow .u8 r).toArray) (t := b32T) (m := (0, 0))
  have B3 := B2.trans (AN.mono B2.size)
  generalize w2.alloc (.cells (nrow .u8 r).toArray b32T) = V at R0 R1 RR B3 ⊢
  clear AN B2 SN
  refine region_tail 2 (by kernel_rfl) (by kernel_rfl) ?_
  simp only [List.take_succ_cons, List.take_zero, List.drop_succ_cons, List.drop_zero]
  repeat (quiet_step (fail))
  refine wpQuiet_nil ?_
  intro m
  have R0 : (V.drewN m).heap[w.heap.size]? = some (.cells (nrow .u8 z64).toArray b64T) := R0
  have R1 : (V.drewN m).heap[w.heap.size + 1]? = some (.cells (nrow .u8 z64).toArray b64T) := R1
  have N1 := Lib.hid (nums_row (W := V.drewN m) (g := w2.heap.size) (t := b32T) (l := r) RR)
  have B4 := below_drewN B3 m
  generalize V.drewN m = U at R0 R1 N1 B4 ⊢
  clear RR B3
  go_wp2_with (first
    | (refine wpList_copy_splice rfl (.tmp 11) (.tmp 12) _ _ rfl 5 (by kernel_rfl) (by kernel_rfl) _ _ _ _ _ _ rfl rfl (w.heap.size + 1) 0 _ b64T R1 (nrow .u8 r) (by rw [nrow_len, Hr32.out]; rfl) (fun h0 => ⟨rfl, nums_source N1.out (by rw [Hr32.out]; omega)⟩) (by rw [nrow_len, Hr32.out, z64_len]; omega) (nrow_one _ _) (w.heap.size + 1) U (Below.refl _ _) (Nat.le_refl _) ?_; intro W3 HG3 hB3; rw [nrow_len, Hr32.out]; have R3 := Lib.hid (show W3.heap[w.heap.size + 1]? = some (.cells (nrow .u8 (Mac.pad64 r)).toArray b64T) by rw [← HSp.out]; exact HG3.out); have R4 := Lib.hid (row_kept R0 hB3 (by omega)))
    | ((with_reducible refine wpl_arr Tryd.underlying56 info_b64 ?_ (.tmp 3) ?_ (w.heap.size + 1) (nrow .u8 (Mac.pad64 r)) HPl.out ?_ R3.out ?_); (rfl); (rfl); (rfl))
    | ((with_reducible refine wpl_arr_store info_b64 ?_ (.tmp 2) (.tmp 17) ?_ w.heap.size (nrow .u8 (Mac.pad64 r)) (nrow .u8 z64) HPl.out z64_len (nrow_one _ _) ?_ ?_ R4.out ?_); (rfl); (rfl); (rfl); (rfl))
    )
  exact bodyPost_ret (arr_results Tryd.underlying56 info_b64 Tryd.results29 HPl.out rfl (row_written R4.out)) rfl ⟨by rw [HB.out], setRow_below (B4.trans (hB3.mono (by omega))) (Nat.le_refl _)⟩
theorem keyBlock_any (w : World) (A : Option Addr) (n cap : Nat) (key b : List Int) (hb : Mac.blk key = b) (hn : key.length = n) (hN : Nums .u8 w A key) (hc : n ≤ cap) (hm : cap ≤ maxLen) (hlen : n ≤ 1000000) (hwf : ∀ z ∈ key, 0 ≤ z ∧ z < 256) (ht : Kt w) :
    Calls Tryd.prog 29 #[.slice A n cap] w fun e w' => e = .returned (.agg (nrow .u8 b).toArray) ∧ Below w.heap.size w w' := by
  subst hb
  by_cases h : 64 < n
  · exact keyBlock_long w A n cap key hn hN h hc hm hlen hwf ht
  · exact keyBlock_short w A n cap key hn hN (by omega)
end Go.Proofs.YtpglhkjgcahdbaaDoor
/- 'append' of slices of bytes to a new row of one. No program in it. -/
namespace Go.Proofs.YtpglhkjgcahdbaaDoor
open Go.ChangeShapes Go.WideShapes Go.ChangeAt Go.RowKit
def prow (ps : List Pt) : List Value := ps.map fun p => Value.slice p.A p.bs.length p.cap
theorem prow_one (ps : List Pt) : ∀ v ∈ prow ps, v.oneCell' = true := by
  intro v hv
  simp only [prow, List.mem_map] at hv
  obtain ⟨_, _, rfl⟩ := hv
  rfl
theorem Parts.all {w : World} {A : Option Addr} {ps : List Pt} (h : Parts w A ps) : ∀ p ∈ ps, Nums .u8 w p.A p.bs ∧ p.bs.length ≤ p.cap ∧ p.cap ≤ maxLen := by
  intro p hp
  obtain ⟨r, hr⟩ := List.mem_iff_getElem?.1 hp
  rcases h with rfl | ⟨b, off, _, _, hc⟩
  · simp at hr
  · exact (hc r p hr).2
theorem parts_take {W : World} {g cap : Nat} {E : TypeId} {ps : List Pt} {cur : Array Value} (h : W.heap[g]? = some (.cells cur E)) (ht : cur.toList.take ps.length = prow ps) (hall : ∀ p ∈ ps, Nums .u8 W p.A p.bs ∧ p.bs.length ≤ p.cap ∧ p.cap ≤ maxLen) : Parts W (some ⟨g, 0, none⟩) ps :=
  Or.inr ⟨g, 0, rfl, row_lt h, fun r p hp => by
    refine ⟨?_, hall p (List.mem_of_getElem? hp)⟩
    have hr : r < ps.length := (List.getElem?_eq_some_iff.1 hp).1
    rw [Nat.zero_add, cell_of_row _ _ _ _ _ _ h]
    have h2 : (cur.toList.take ps.length)[r]? = some (Value.slice p.A p.bs.length p.cap) := by rw [ht, prow, List.getElem?_map, hp]; rfl
    rw [List.getElem?_take, if_pos hr] at h2
    simpa using h2⟩
theorem wpList_append_parts {P : Program} {Q : Exit → Act → World → Prop} {ops : Array Oper} {rest : List Oper} {o : Oper} {a : Act} {Wp : World} {E : TypeId} (hgd : o.guard = none) (s x : Operand) (t : TypeId)
    (ho : o.op = .call { callee := .builtin .append, args := #[s, x], argTypes := #[t, t] })
    (i : TypeInfo) (ht : P.underlying t = some (.slice E)) (hi : P.info? E = some i) (hz : i.zero = some (.slice none 0 0)) (hsize : i.size = 1) (hby : i.bytes = 24)
    (p0 : Pt) (n0 : Nat) (hn0 : p0.bs.length = n0) (h0 : Nums .u8 Wp p0.A p0.bs ∧ p0.bs.length ≤ p0.cap ∧ p0.cap ≤ maxLen) (hs : a.eval s = .slice (some ⟨Wp.heap.size, 0, none⟩) 1 1)
    (B : Option Addr) (np pcap : Nat) (ps : List Pt) (hnp : ps.length = np) (hP : Parts Wp B ps) (hx : a.eval x = .slice B np pcap) (hbig : np ≤ 1000000)
    (h : ∀ A' c' w', Parts w' A' (p0 :: ps) → 1 + np ≤ c' → c' ≤ maxLen → Below Wp.heap.size Wp w' → wpList P ops Q rest (a.put o.dst (.slice A' (1 + np) c')) w') :
    wpList P ops Q (o :: rest) a (Wp.alloc (.cells #[.slice p0.A n0 p0.cap] E)) := by
  subst hn0; subst hnp
  have hB0 : Below Wp.heap.size Wp (Wp.alloc (.cells #[.slice p0.A p0.bs.length p0.cap] E)) := (Below.refl _ _).alloc (Nat.le_refl _) _
  have hrow : (Wp.alloc (.cells #[.slice p0.A p0.bs.length p0.cap] E)).heap[Wp.heap.size]? = some (.cells #[.slice p0.A p0.bs.length p0.cap] E) := row_new
  have hall : ∀ w', Below Wp.heap.size Wp w' → ∀ p ∈ p0 :: ps, Nums .u8 w' p.A p.bs ∧ p.bs.length ≤ p.cap ∧ p.cap ≤ maxLen := fun w' hb p hp => by
    rcases List.mem_cons.1 hp with rfl | hp
    · exact ⟨h0.1.below hb, h0.2⟩
    · obtain ⟨q1, q2⟩ := hP.all p hp
      exact ⟨q1.below hb, q2⟩
  have hown : (Wp.alloc (.cells #[.slice p0.A p0.bs.length p0.cap] E)).ownsRow Wp.heap.size E 1 (.slice (some ⟨Wp.heap.size, 0, none⟩) 1 1) 1 [.slice p0.A p0.bs.length p0.cap] :=
    ⟨rfl, Or.inr ⟨Wp.heap.size, 1, #[.slice p0.A p0.bs.length p0.cap], rfl, Nat.le_refl _, hrow, Nat.le_refl _, by decide, rfl, rfl⟩⟩
  have fin : ∀ v' w', w'.ownsRow Wp.heap.size E 1 v' (1 + ps.length) ([.slice p0.A p0.bs.length p0.cap] ++ prow ps) → Below Wp.heap.size Wp w' → wpList P ops Q rest (a.put o.dst v') w' := fun v' w' ho' hb => by
    rcases ho'.2 with ⟨_, h1⟩ | ⟨g, cap, cur, rfl, _, hh, hc1, hc2, _, htk⟩
    · omega
    · refine h _ _ _ (parts_take (cap := cap) hh ?_ (hall w' hb)) hc1 hc2 hb
      rw [Nat.mul_one] at htk
      rw [List.length_cons, Nat.add_comm, htk]
      rfl
  by_cases hps : B = none
  · subst hps
    obtain rfl : ps = [] := by
      rcases hP with h | ⟨b, off, h, _⟩
      · exact h
      · cases h
    have h1 := fin _ _ hown hB0
    refine wpList_plain hgd fun K hK => ?_
    have h2 := hK _ _ h1
    have hr : (Builtin.append_ #[t, t] o.type #[.slice (some ⟨Wp.heap.size, 0, none⟩) 1 1, .slice none 0 pcap]).run P (Wp.alloc (.cells #[.slice p0.A p0.bs.length p0.cap] E)) = .ok (.slice (some ⟨Wp.heap.size, 0, none⟩) 1 1) (Wp.alloc (.cells #[.slice p0.A p0.bs.length p0.cap] E)) := by
      simp [Builtin.append_, run_underlying ht, sizeOf, typeInfo, hi, Builtin.lenOf, Builtin.firstCells, storeCells]
    unfold Oper.wp execOp
    simp only [ho, resolve, invoke, builtin, Sem.run_bind, Sem.run_pure, Result.andThen_ok, List.map_toArray, List.map_cons, List.map_nil, hs, hx, List.length_nil, hr]
    exact h2
  · obtain ⟨ad, rfl⟩ : ∃ ad, B = some ad := by
      cases B with
      | none => exact absurd rfl hps
      | some ad => exact ⟨ad, rfl⟩
    refine wpList_plain hgd fun K hK => wp_append_own _ s x t ho Wp.heap.size E i (.slice none 0 0) 1 24 ht hi hz hsize hby rfl (by decide) _ _ _ hs hown ad ps.length pcap (prow ps) hx (by simp [prow]) ?_ (prow_one ps) (by unfold maxLen; omega) (by omega) (by simp) ?_
    · intro j u hj
      rcases hP.below hB0 with h1 | ⟨b, off, hA, _, hc⟩
      · rw [h1] at hj; simp [prow] at hj
      · injection hA with hA
        subst hA
        unfold prow at hj
        rw [List.getElem?_map] at hj
        obtain ⟨p, hp, rfl⟩ := Option.map_eq_some_iff.1 hj
        rw [add_plain]
        exact (hc j p hp).1
    · intro v' w' ho' hgrow _
      exact hK _ _ (fin v' w' ho' (hB0.grown hgrow (Nat.le_of_lt (by simp)) (fun g hg => by
        have := (hown.lt g hg).1; exact this)))
end Go.Proofs.YtpglhkjgcahdbaaDoor
