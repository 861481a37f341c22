/- Append of one number, telling which block it writes (as Mem5, over Mem6). No program in it. -/
import Derived.Test.YtmdlhcelibciiaaDoorMem6
import Derived.ArgAppend
namespace Go.Proofs.YtmdlhcelibciiaaDoor
open Go.ChangeShapes Go.WideShapes Go.ChangeAt Go.RowKit
section
variable {k : IntKind} {w w' : World} {A : Option Addr} {l : List Int} {E : TypeId} {base c : Nat}
/-- Another row of the call's own is as it was. -/
theorem OwnN.kept {row : Option Nat} (h : OwnN k E base w A c l) (hg : w.grownBy w' row) (hne : A = none ∨ A.map (·.block) ≠ row) : OwnN k E base w' A c l := by
  refine ⟨h.1.kept hg ?_, Nat.le_trans h.2 hg.size⟩
  rcases hne with h1 | h1
  · subst h1; exact Or.inl rfl
  · cases A with
    | none => exact Or.inl rfl
    | some a => exact Or.inr h1
theorem OwnN.blk {a : Addr} (h : OwnN k E base w A c l) (hA : A = some a) : base ≤ a.block ∧ a.block < w.heap.size := by
  subst hA
  rcases h.1.2 with ⟨h1, _⟩ | ⟨g, cap, cur, hv, hb, hh, _⟩
  · cases h1
  · injection hv with hA
    injection hA with hA
    subst hA
    exact ⟨hb, row_lt hh⟩
/-- Two rows that lie apart. -/
def Apart (A B : Option Addr) : Prop := ∀ a b, A = some a → B = some b → a.block ≠ b.block
theorem Apart.ne {A B : Option Addr} (h : Apart A B) : B = none ∨ B.map (·.block) ≠ A.map (·.block) := by
  cases B with
  | none => exact Or.inl rfl
  | some b =>
    cases A with
    | none => exact Or.inr (by simp)
    | some a => exact Or.inr (by have := h a b rfl rfl; simp; omega)
theorem Apart.symm {A B : Option Addr} (h : Apart A B) : Apart B A := fun a b ha hb => Ne.symm (h b a hb ha)
theorem Apart.next {A A' B : Option Addr} {n : Nat} (h : Apart A B) (hw : ∀ a', A' = some a' → A.map (·.block) = some a'.block ∨ n ≤ a'.block) (hB : ∀ b, B = some b → b.block < n) : Apart A' B := fun a' b ha hb => by
  rcases hw a' ha with h1 | h1
  · cases A with
    | none => cases h1
    | some a =>
      have := h a b rfl hb
      simp at h1
      omega
  · have := hB b hb
    omega
theorem wp_append_num2 {P : Program} {Q : Exit → Act → World → Prop} {K : Act → World → Prop} {o : Oper} {a : Act} (s x : Operand) (t : TypeId)
    (ho : o.op = .call { callee := .builtin .append, args := #[s, x], argTypes := #[t, t] })
    (i : TypeInfo) (bytes : Nat) (ht : P.underlying t = some (.slice E)) (hi : P.info? E = some i) (hz : i.zero = some (.int k 0)) (hsize : i.size = 1) (hby : i.bytes = bytes) (hb8 : bytes ≤ 8)
    (n : Nat) (hn : l.length = n) (hs : a.eval s = .slice A n c) (hown : OwnN k E base w A c l)
    (ad : Addr) (cc : Nat) (x0 : Int) (hx : a.eval x = .slice (some ad) 1 cc) (hcell : w.cell? ad = some (.int k x0)) (hlen : l.length < 17592186044415)
    (B : Nat) (W0 : World) (hB : B ≤ base) (hbelow : Below B W0 w)
    (h : ∀ A' c' w', OwnN k E base w' A' c' (l ++ [x0]) → Below B W0 w' → w.grownBy w' (A.map (·.block)) → (∀ a', A' = some a' → A.map (·.block) = some a'.block ∨ w.heap.size ≤ a'.block) → K (a.put o.dst (.slice A' (n + 1) c')) w') : o.wp P a w K Q := by
  subst hn
  have hnews : ∀ j u, [Value.int k x0][j]? = some u → w.cell? (ad.add j) = some u := by
    intro j u hj
    match j, hj with
    | 0, hj =>
      simp at hj; subst hj
      simpa [Addr.add] using hcell
  have h1 : ∀ u ∈ [Value.int k x0], u.oneCell' = true := by
    intro u hu
    simp at hu; subst hu; rfl
  have hbytes : (l.length + 1) * bytes ≤ 140737488355328 := by
    have : (l.length + 1) * bytes ≤ (l.length + 1) * 8 := Nat.mul_le_mul_left _ hb8
    omega
  have fin : ∀ (b2 : Nat) (v' : Value) (w1 : World), base ≤ b2 → w1.ownsRow b2 E 1 v' (l.length + 1) (l.map (Value.int k) ++ [Value.int k x0]) → w.grownBy w1 (A.map (·.block)) →
      (∀ g, v'.ownBlock = some g → A.map (·.block) = some g ∨ w.heap.size ≤ g) → K (a.put o.dst v') w1 := by
    intro b2 v' w1 hb2 hown' hgrow hwhere
    have hsz : w.heap.size ≤ w1.heap.size := hgrow.size
    have hb1 : Below B W0 w1 := hbelow.grown hgrow (by have := hown.2; omega) (fun g hg => by
      cases A with
      | none => cases hg
      | some a0 =>
        have := (hown.1.lt a0.block rfl).1
        simp at hg
        omega)
    have hlen1 : (l ++ [x0]).length = l.length + 1 := by simp
    rcases hown'.2 with ⟨_, h0⟩ | ⟨g, cap, cur, hv, g1, g2, g3, g4, g5, g6⟩
    · omega
    · subst hv
      have hfin : OwnN k E base w1 (some ⟨g, 0, none⟩) cap (l ++ [x0]) := by
        refine ⟨⟨by simp, Or.inr ⟨g, cap, cur, by rw [hlen1], by omega, g2, by rw [hlen1]; exact g3, g4, g5, ?_⟩⟩, by have := hown.2; omega⟩
        rw [hlen1, g6, List.map_append]
        rfl
      exact h (some ⟨g, 0, none⟩) cap w1 hfin hb1 hgrow (fun a' ha' => by
        injection ha' with ha'
        subst ha'
        exact hwhere g rfl)
  rcases hown.1.2 with ⟨hv, h0⟩ | ⟨g, cap, cur, hv, r1, r2, r3, r4, r5, r6⟩
  · injection hv with e1 e2 e3
    subst e1
    have hl : l = [] := List.eq_nil_of_length_eq_zero h0
    subst hl
    subst e3
    refine wp_append_own w s x t ho w.heap.size E i (.int k 0) 1 bytes ht hi hz hsize hby rfl (by decide) _ 0 [] hs (World.ownsRow_nil _ _ _ _) ad 1 cc [.int k x0] hx rfl hnews h1 (by unfold maxLen; omega) (by simpa using hbytes) (Nat.le_refl _) ?_
    intro v' w1 hown' hgrow _
    exact fin w.heap.size v' w1 hown.2 (by simpa using hown') hgrow (fun g hg => Or.inr (hown'.lt g hg).1)
  · injection hv with e1 e2 e3
    subst e1
    subst e3
    by_cases hroom : l.length + 1 ≤ c
    · obtain ⟨w1, hr, g1, g2⟩ := run_append_fits (P := P) w base t o.type E i 1 ht hi hsize g l.length c (l.map (Value.int k)) hown.1 ad 1 cc [.int k x0] rfl hnews h1 hroom
      unfold Oper.wp execOp
      simp only [ho, resolve, invoke, builtin, Sem.run_bind, Sem.run_pure, Result.andThen_ok, List.map_toArray, List.map_cons, List.map_nil, hs, hx, hr]
      exact fin base _ w1 (Nat.le_refl _) g1 g2 (fun g' hg' => Or.inl (by simpa [Value.ownBlock] using hg'))
    · obtain ⟨v', w1, hr, g1, g2⟩ := run_append_arg_grows (P := P) w t o.type E i (.int k 0) 1 bytes ht hi hz hsize hby rfl (by decide) ⟨g, 0, none⟩ l.length c (l.map (Value.int k)) hown.1.1 (hown.1.cells rfl) ad 1 cc [.int k x0] rfl hnews (by omega) (by unfold maxLen; omega) hbytes
      unfold Oper.wp execOp
      simp only [ho, resolve, invoke, builtin, Sem.run_bind, Sem.run_pure, Result.andThen_ok, List.map_toArray, List.map_cons, List.map_nil, hs, hx, hr]
      exact fin w.heap.size v' w1 hown.2 g1 ⟨g2.1, g2.2, g2.3, g2.4, fun k hk _ => g2.5 k hk (by simp)⟩ (fun g' hg' => Or.inr (g1.lt g' hg').1)
theorem wpList_append_num2 {P : Program} {Q : Exit → Act → World → Prop} {ops : Array Oper} {rest : List Oper} {o : Oper} {a : Act} (hgd : Region.wanted o (yielded ops a.tmps) = true) (s x : Operand) (t : TypeId)
    (ho : o.op = .call { callee := .builtin .append, args := #[s, x], argTypes := #[t, t] })
    (i : TypeInfo) (bytes : Nat) (ht : P.underlying t = some (.slice E)) (hi : P.info? E = some i) (hz : i.zero = some (.int k 0)) (hsize : i.size = 1) (hby : i.bytes = bytes) (hb8 : bytes ≤ 8)
    (n : Nat) (hn : l.length = n) (hs : a.eval s = .slice A n c) (hown : OwnN k E base w A c l)
    (ad : Addr) (cc : Nat) (x0 : Int) (hx : a.eval x = .slice (some ad) 1 cc) (hcell : w.cell? ad = some (.int k x0)) (hlen : l.length < 17592186044415)
    (B : Nat) (W0 : World) (hB : B ≤ base) (hbelow : Below B W0 w)
    (h : ∀ A' c' w', OwnN k E base w' A' c' (l ++ [x0]) → Below B W0 w' → w.grownBy w' (A.map (·.block)) → (∀ a', A' = some a' → A.map (·.block) = some a'.block ∨ w.heap.size ≤ a'.block) → wpList P ops Q rest (a.put o.dst (.slice A' (n + 1) c')) w') : wpList P ops Q (o :: rest) a w :=
  BigFrame.wpList_want hgd fun _ hK => wp_append_num2 s x t ho i bytes ht hi hz hsize hby hb8 n hn hs hown ad cc x0 hx hcell hlen B W0 hB hbelow fun A' c' w' h1 h2 h3 h4 => hK _ _ (h A' c' w' h1 h2 h3 h4)
end
end Go.Proofs.YtmdlhcelibciiaaDoor
