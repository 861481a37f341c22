/- Append of one number to a row of the call's own: the row that was stays as it was, and may be written. A byte turned is another byte. No program in it. -/
import Derived.Test.YtmdlhcelibciiaaDoorMacMath
import Derived.Test.YtmdlhcelibciiaaDoorMem6
import Derived.ArgAppend
namespace Go.Proofs.YtmdlhcelibciiaaDoor
open Go.ChangeShapes Go.WideShapes Go.ChangeAt Go.RowKit
theorem bv_xor_self {a b : BitVec 8} (h : a ^^^ b = a) : b = 0 := by
  have e : a ^^^ (a ^^^ b) = b := by rw [← BitVec.xor_assoc, BitVec.xor_self, BitVec.zero_xor]
  rw [h, BitVec.xor_self] at e
  exact e.symm
theorem Mac.xor8_ne {x c : Int} (hx : 0 ≤ x ∧ x < 256) (hc : 0 ≤ c ∧ c < 256) (h0 : c ≠ 0) : Mac.xor8 x c ≠ x := by
  intro h
  unfold Mac.xor8 at h
  have h' : IntKind.u8.wrap ((BitVec.ofInt 8 x ^^^ BitVec.ofInt 8 c).toNat : Int) = x := h
  rw [IntKind.wrap_u8] at h'
  have hlt : (BitVec.ofInt 8 x ^^^ BitVec.ofInt 8 c).toNat < 256 := (BitVec.ofInt 8 x ^^^ BitVec.ofInt 8 c).isLt
  have ha : ((BitVec.ofInt 8 x).toNat : Int) = x := by rw [BitVec.toNat_ofInt]; omega
  have hb : ((BitVec.ofInt 8 c).toNat : Int) = c := by rw [BitVec.toNat_ofInt]; omega
  have e : BitVec.ofInt 8 x ^^^ BitVec.ofInt 8 c = BitVec.ofInt 8 x := by
    apply BitVec.eq_of_toNat_eq
    omega
  have h2 := bv_xor_self e
  rw [h2] at hb
  exact h0 (by simpa using hb.symm)
theorem set_ne (l : List Int) (i : Nat) (h : i < l.length) {y : Int} (hy : y ≠ l.getD i 0) : l ≠ l.set i y := by
  intro e
  have := congrArg (fun m => m.getD i 0) e
  simp [List.getD, h] at this
  simp [List.getD, h] at hy
  exact hy this.symm
theorem app_ne (l : List Int) (c : Int) : l ≠ l ++ [c] := by
  intro e
  have := congrArg List.length e
  simp at this
section
variable {k : IntKind} {w w' : World} {A : Option Addr} {l : List Int} {E : TypeId} {base c : Nat}
/-- The cells of a row of the call's own, whatever lies behind them. -/
def OldN (k : IntKind) (E : TypeId) (base : Nat) (w : World) (A : Option Addr) (l : List Int) : Prop :=
  l = [] ∨ ∃ g cur, A = some ⟨g, 0, none⟩ ∧ base ≤ g ∧ w.heap[g]? = some (.cells cur E) ∧ cur.toList.take l.length = l.map (Value.int k)
theorem cur_at {cur : Array Value} {n : Nat} (h : cur.toList.take l.length = l.map (Value.int k)) (hn : n < l.length) : cur[n]? = some (.int k (l.getD n 0)) := by
  have h2 : (cur.toList.take l.length)[n]? = some (.int k (l.getD n 0)) := by rw [h]; simp [List.getD, hn]
  rw [List.getElem?_take, if_pos hn] at h2
  simpa using h2
theorem OldN.nums (h : OldN k E base w A l) : Nums k w A l := by
  rcases h with h | ⟨g, cur, rfl, _, hh, htk⟩
  · exact Or.inl h
  · exact Or.inr ⟨g, 0, rfl, row_lt hh, fun i hi => by rw [Nat.zero_add, cell_of_row _ _ _ _ _ _ hh]; exact cur_at htk hi⟩
theorem OldN.put (h : OldN k E base w A l) (i : Nat) (hi : i < l.length) : ∃ g cur, A = some ⟨g, 0, none⟩ ∧ base ≤ g ∧ w.heap[g]? = some (.cells cur E) ∧ cur[i]? = some (.int k (l.getD i 0)) ∧ ∀ y, Nums k (setRow w g E (cur.setIfInBounds i (.int k y))) A (l.set i y) := by
  rcases h with h | ⟨g, cur, rfl, hb, hh, htk⟩
  · rw [h] at hi; cases hi
  · refine ⟨g, cur, rfl, hb, hh, cur_at htk hi, fun y => Or.inr ⟨g, 0, rfl, by rw [setRow_size]; exact row_lt hh, fun j hj => ?_⟩⟩
    rw [List.length_set] at hj
    rw [Nat.zero_add, cell_of_row _ _ _ _ _ _ (row_written hh)]
    have hz : i < cur.size := by
      have := cur_at htk hi
      rcases Nat.lt_or_ge i cur.size with h1 | h1
      · exact h1
      · rw [Array.getElem?_eq_none h1] at this; cases this
    by_cases hij : i = j
    · subst hij
      rw [Array.getElem?_setIfInBounds_self_of_lt hz]
      simp [List.getD, hj]
    · rw [Array.getElem?_setIfInBounds_ne hij, cur_at htk hj]
      simp [List.getD, List.getElem?_set, hij]
theorem wpList_append_num_keep {P : Program} {Q : Exit → Act → World → Prop} {ops : Array Oper} {rest : List Oper} {o : Oper} {a : Act} (hgd : Region.wanted o (yielded ops a.tmps) = true) (s x : Operand) (t : TypeId)
    (ho : o.op = .call { callee := .builtin .append, args := #[s, x], argTypes := #[t, t] })
    (i : TypeInfo) (bytes : Nat) (ht : P.underlying t = some (.slice E)) (hi : P.info? E = some i) (hz : i.zero = some (.int k 0)) (hsize : i.size = 1) (hby : i.bytes = bytes) (hb8 : bytes ≤ 8)
    (n : Nat) (hn : l.length = n) (hs : a.eval s = .slice A n c) (hown : OwnN k E base w A c l)
    (ad : Addr) (cc : Nat) (x0 : Int) (hx : a.eval x = .slice (some ad) 1 cc) (hcell : w.cell? ad = some (.int k x0)) (hlen : l.length < 17592186044415)
    (B : Nat) (W0 : World) (hB : B ≤ base) (hbelow : Below B W0 w)
    (h : ∀ A' c' w', Nums k w' A' (l ++ [x0]) → OldN k E base w' A l → Below B W0 w' → wpList P ops Q rest (a.put o.dst (.slice A' (n + 1) c')) w') : wpList P ops Q (o :: rest) a w := by
  subst hn
  refine BigFrame.wpList_want hgd fun K hK => ?_
  have hnews : ∀ j u, [Value.int k x0][j]? = some u → w.cell? (ad.add j) = some u := by
    intro j u hj
    match j, hj with
    | 0, hj =>
      simp at hj; subst hj
      simpa [Addr.add] using hcell
  have h1 : ∀ u ∈ [Value.int k x0], u.oneCell' = true := by
    intro u hu
    simp at hu; subst hu; rfl
  have hbytes : (l.length + 1) * bytes ≤ 140737488355328 := by
    have : (l.length + 1) * bytes ≤ (l.length + 1) * 8 := Nat.mul_le_mul_left _ hb8
    omega
  have fin : ∀ (b2 : Nat) (v' : Value) (w1 : World), base ≤ b2 → w1.ownsRow b2 E 1 v' (l.length + 1) (l.map (Value.int k) ++ [Value.int k x0]) → w.grownBy w1 (A.map (·.block)) → OldN k E base w1 A l → K (a.put o.dst v') w1 := by
    intro b2 v' w1 hb2 hown' hgrow hold
    have hb1 : Below B W0 w1 := hbelow.grown hgrow (by have := hown.2; omega) (fun g hg => by
      cases A with
      | none => cases hg
      | some a0 =>
        have := (hown.1.lt a0.block rfl).1
        simp at hg
        omega)
    have hlen1 : (l ++ [x0]).length = l.length + 1 := by simp
    rcases hown'.2 with ⟨_, h0⟩ | ⟨g, cap, cur, hv, g1, g2, g3, g4, g5, g6⟩
    · omega
    · subst hv
      refine hK _ _ (h _ _ w1 (Nums.of_own (k := k) (zs := l ++ [x0]) (n := l.length + 1) (c := cap) (e := E) (base := b2) (by rw [List.map_append]; exact hown') (by simp)) hold hb1)
  rcases hown.1.2 with ⟨hv, h0⟩ | ⟨g, cap, cur, hv, r1, r2, r3, r4, r5, r6⟩
  · injection hv with e1 e2 e3
    subst e1
    have hl : l = [] := List.eq_nil_of_length_eq_zero h0
    subst hl
    subst e3
    refine wp_append_own w s x t ho w.heap.size E i (.int k 0) 1 bytes ht hi hz hsize hby rfl (by decide) _ 0 [] hs (World.ownsRow_nil _ _ _ _) ad 1 cc [.int k x0] hx rfl hnews h1 (by unfold maxLen; omega) (by simpa using hbytes) (Nat.le_refl _) ?_
    intro v' w1 hown' hgrow _
    exact fin w.heap.size v' w1 hown.2 (by simpa using hown') hgrow (Or.inl rfl)
  · injection hv with e1 e2 e3
    subst e1
    subst e3
    by_cases hroom : l.length + 1 ≤ c
    · obtain ⟨w1, hr, g1, g2⟩ := run_append_fits (P := P) w base t o.type E i 1 ht hi hsize g l.length c (l.map (Value.int k)) hown.1 ad 1 cc [.int k x0] rfl hnews h1 hroom
      unfold Oper.wp execOp
      simp only [ho, resolve, invoke, builtin, Sem.run_bind, Sem.run_pure, Result.andThen_ok, List.map_toArray, List.map_cons, List.map_nil, hs, hx, hr]
      refine fin base _ w1 (Nat.le_refl _) g1 g2 ?_
      rcases g1.2 with ⟨_, h0⟩ | ⟨g', cap', cur', hv', q1, q2, q3, q4, q5, q6⟩
      · omega
      · injection hv' with e1
        injection e1 with e1
        injection e1 with e1
        subst e1
        refine Or.inr ⟨g, cur', rfl, q1, q2, ?_⟩
        have := congrArg (List.take l.length) q6
        rw [List.take_take, Nat.min_eq_left (by omega), List.take_left' (by simp)] at this
        exact this
    · obtain ⟨v', w1, hr, g1, g2⟩ := run_append_arg_grows (P := P) w t o.type E i (.int k 0) 1 bytes ht hi hz hsize hby rfl (by decide) ⟨g, 0, none⟩ l.length c (l.map (Value.int k)) hown.1.1 (hown.1.cells rfl) ad 1 cc [.int k x0] rfl hnews (by omega) (by unfold maxLen; omega) hbytes
      unfold Oper.wp execOp
      simp only [ho, resolve, invoke, builtin, Sem.run_bind, Sem.run_pure, Result.andThen_ok, List.map_toArray, List.map_cons, List.map_nil, hs, hx, hr]
      refine fin w.heap.size v' w1 hown.2 g1 ⟨g2.1, g2.2, g2.3, g2.4, fun k hk _ => g2.5 k hk (by simp)⟩ ?_
      exact Or.inr ⟨g, cur, rfl, r1, (g2.5 g (row_lt r2) (by simp)).trans r2, by rw [← r6, Nat.mul_one]⟩
end
end Go.Proofs.YtmdlhcelibciiaaDoor
