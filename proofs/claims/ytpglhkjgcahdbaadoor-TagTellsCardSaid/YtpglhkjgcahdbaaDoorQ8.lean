/- Texts of this proof, merged: Mem8b, Wire2. -/
import Derived.Test.YtpglhkjgcahdbaaDoorQ7
/- Append of a row as one step of a drawn region, telling which block it writes (as Mem8, over Mem6). -/
namespace Go.Proofs.YtpglhkjgcahdbaaDoor
open Go.ChangeShapes Go.WideShapes Go.ChangeAt Go.RowKit
section
variable {k : IntKind} {w w' : World} {A : Option Addr} {l : List Int} {E : TypeId} {base c : Nat}
/-- 'append' of a row of numbers. -/
theorem wp_append_rowG {P : Program} {Q : Exit → Act → World → Prop} {K : Act → World → Prop} {o : Oper} {a : Act} (s x : Operand) (t : TypeId)
    (ho : o.op = .call { callee := .builtin .append, args := #[s, x], argTypes := #[t, t] })
    (i : TypeInfo) (bytes : Nat) (ht : P.underlying t = some (.slice E)) (hi : P.info? E = some i) (hz : i.zero = some (.int k 0)) (hsize : i.size = 1) (hby : i.bytes = bytes) (hb8 : bytes ≤ 8)
    (n : Nat) (hn : l.length = n) (hs : a.eval s = .slice A n c) (hown : OwnN k E base w A c l)
    (ad : Addr) (m cc : Nat) (xs : List Int) (hx : a.eval x = .slice (some ad) m cc) (hm : xs.length = m) (hcell : Nums k w (some ad) xs) (hlen : l.length + m < 17592186044415)
    (B : Nat) (W0 : World) (hB : B ≤ base) (hbelow : Below B W0 w)
    (h : ∀ A' c' w', OwnN k E base w' A' c' (l ++ xs) → Below B W0 w' → w.grownBy w' (A.map (·.block)) → K (a.put o.dst (.slice A' (n + m) c')) w') : o.wp P a w K Q := by
  subst hn
  subst hm
  refine wp_append_own w s x t ho base E i (.int k 0) 1 bytes ht hi hz hsize hby rfl (by decide) _ _ _ hs hown.1 ad xs.length cc (xs.map (Value.int k)) hx (by simp) ?_ ?_ ?_ ?_ hown.2 ?_
  · intro j u hj
    have hj' : j < xs.length := by
      have := (List.getElem?_eq_some_iff.1 hj).1
      simpa using this
    rcases hcell with h0 | ⟨b', off, h1, h2, h3⟩
    · rw [h0] at hj'; cases hj'
    · injection h1 with h1
      subst h1
      have e : Value.int k (xs.getD j 0) = u := by simpa [List.getD, hj'] using hj
      rw [← e, add_plain]
      exact h3 j hj'
  · intro u hu
    simp only [List.mem_map] at hu
    obtain ⟨z, _, rfl⟩ := hu
    rfl
  · unfold maxLen; omega
  · have : (l.length + xs.length) * bytes ≤ (l.length + xs.length) * 8 := Nat.mul_le_mul_left _ hb8
    omega
  · intro v' w1 hown' hgrow _
    have hlen1 : (l ++ xs).length = l.length + xs.length := by simp
    have hsz : w.heap.size ≤ w1.heap.size := hgrow.size
    have hb1 : Below B W0 w1 := hbelow.grown hgrow (by have := hown.2; omega) (fun g hg => by have := (hown.1.lt g hg).1; omega)
    rcases hown'.2 with ⟨h1, h0⟩ | ⟨g, cap, cur, hv, h1, h2, h3, h4, h5, h6⟩
    · subst h1
      have e1 : l = [] := List.eq_nil_of_length_eq_zero (by omega)
      have e2 : xs = [] := List.eq_nil_of_length_eq_zero (by omega)
      subst e1; subst e2
      exact h none 0 w1 (OwnN.nil (by have := hown.2; omega)) hb1 (by cases A <;> exact hgrow)
    · subst hv
      rw [← hlen1] at hown'
      have hfin : OwnN k E base w1 (some ⟨g, 0, none⟩) cap (l ++ xs) := ⟨by rw [List.map_append, hlen1]; rw [hlen1] at hown'; exact hown', by have := hown.2; omega⟩
      exact h (some ⟨g, 0, none⟩) cap w1 hfin hb1 (by cases A <;> exact hgrow)
end
theorem wp_append_rowA {k : IntKind} {E : TypeId} {base : Nat} {w : World} {A : Option Addr} {c : Nat} {l : List Int} {P : Program} {Q : Exit → Act → World → Prop} {K : Act → World → Prop} {o : Oper} {a : Act} (s x : Operand) (t : TypeId)
    (ho : o.op = .call { callee := .builtin .append, args := #[s, x], argTypes := #[t, t] })
    (i : TypeInfo) (bytes : Nat) (ht : P.underlying t = some (.slice E)) (hi : P.info? E = some i) (hz : i.zero = some (.int k 0)) (hsize : i.size = 1) (hby : i.bytes = bytes) (hb8 : bytes ≤ 8)
    (n : Nat) (hn : l.length = n) (hs : a.eval s = .slice A n c) (hown : OwnN k E base w A c l)
    (ad : Option Addr) (m cc : Nat) (xs : List Int) (hx : a.eval x = .slice ad m cc) (hm : xs.length = m) (hcell : Nums k w ad xs) (hlen : l.length + m < 17592186044415)
    (B : Nat) (W0 : World) (hB : B ≤ base) (hbelow : Below B W0 w)
    (h : ∀ A' c' w', OwnN k E base w' A' c' (l ++ xs) → Below B W0 w' → w.grownBy w' (A.map (·.block)) → K (a.put o.dst (.slice A' (n + m) c')) w') : o.wp P a w K Q := by
  cases ad with
  | some ad => exact wp_append_rowG s x t ho i bytes ht hi hz hsize hby hb8 n hn hs hown ad m cc xs hx hm hcell hlen B W0 hB hbelow h
  | none =>
    obtain rfl : xs = [] := by
      rcases hcell with h | ⟨b, off, h, _⟩
      · exact h
      · cases h
    obtain rfl : m = 0 := by simpa using hm.symm
    have h1 := h A c w (by simpa using hown) hbelow ⟨rfl, rfl, rfl, Nat.le_refl _, fun _ _ _ => rfl⟩
    have h2 := h1
    have hr : (Builtin.append_ #[t, t] o.type #[.slice A n c, .slice none 0 cc]).run P w = .ok (.slice A (n + 0) c) w := by
      subst hn
      rcases hown.1.2 with ⟨hv, h0⟩ | ⟨g, cap, cur, hv, _, _, hnc, _⟩
      · injection hv with e1 e2 e3
        subst e1; subst e3
        rw [e2]
        simp [Builtin.append_, run_underlying ht, sizeOf, typeInfo, hi, Builtin.lenOf, Builtin.firstCells]
      · injection hv with e1 e2 e3
        subst e1; subst e3
        simp [Builtin.append_, run_underlying ht, sizeOf, typeInfo, hi, Builtin.lenOf, Builtin.firstCells, hnc, storeCells]
    unfold Oper.wp execOp
    simp only [ho, resolve, invoke, builtin, Sem.run_bind, Sem.run_pure, Result.andThen_ok, List.map_toArray, List.map_cons, List.map_nil, hs, hx, hr]
    exact h2
theorem step_append_rowA {k : IntKind} {E : TypeId} {base : Nat} {w : World} {A : Option Addr} {c : Nat} {l : List Int} {P : Program} {F : Prop} {Q : Exit → Act → World → Prop} {ops : Array Oper} {K : Act → World → Prop} {o : Oper} {a : Act} (hgd : o.guard = none) (s x : Operand) (t : TypeId)
    (ho : o.op = .call { callee := .builtin .append, args := #[s, x], argTypes := #[t, t] })
    (i : TypeInfo) (bytes : Nat) (ht : P.underlying t = some (.slice E)) (hi : P.info? E = some i) (hz : i.zero = some (.int k 0)) (hsize : i.size = 1) (hby : i.bytes = bytes) (hb8 : bytes ≤ 8)
    (n : Nat) (hn : l.length = n) (hs : a.eval s = .slice A n c) (hown : OwnN k E base w A c l)
    (ad : Option Addr) (m cc : Nat) (xs : List Int) (hx : a.eval x = .slice ad m cc) (hm : xs.length = m) (hcell : Nums k w ad xs) (hlen : l.length + m < 17592186044415)
    (B : Nat) (W0 : World) (hB : B ≤ base) (hbelow : Below B W0 w)
    (h : ∀ A' c' w', OwnN k E base w' A' c' (l ++ xs) → Below B W0 w' → w.grownBy w' (A.map (·.block)) → K (a.put o.dst (.slice A' (n + m) c')) w') : if Region.wanted o (yielded ops a.tmps) = true then Oper.wp P o a w K Q else F := by
  have hw : Region.wanted o (yielded ops a.tmps) = true := by simp [Region.wanted, hgd]
  rw [if_pos hw]
  exact wp_append_rowA s x t ho i bytes ht hi hz hsize hby hb8 n hn hs hown ad m cc xs hx hm hcell hlen B W0 hB hbelow h
end Go.Proofs.YtpglhkjgcahdbaaDoor
/- What the parts of a packet come to: whether one fits. -/
namespace Go.Proofs.YtpglhkjgcahdbaaDoor
open Go.ChangeShapes Go.WideShapes Go.ChangeAt Go.RowKit
theorem nil_row (W : World) : (binOp .neq 48 .nilFunc .nilFunc).run Tryd.prog W = .ok (.bool false) W := by kernel_rfl
theorem fun_row (W : World) (f : FuncId) : (binOp .neq 48 (.func (.func f) #[] #[]) .nilFunc).run Tryd.prog W = .ok (.bool true) W := by kernel_rfl
theorem j_cases {x : Pt5} (h : x.Ok) : x.j = 1 ∨ x.j = 2 ∨ x.j = 3 ∨ x.j = 4 ∨ x.j = 5 ∨ x.j = 6 ∨ x.j = 7 ∨ x.j = 8 ∨ x.j = 9 ∨ x.j = 10 ∨ x.j = 11 ∨ x.j = 12 ∨ x.j = 13 := by
  have := h.j1; have := h.j2; omega
theorem pk_cell {W : World} {g : Nat} {p : Pk} (h : W.heap[g]? = some (.cells (pcs p).toArray pkT)) (hp : p.Wf) (i : Nat) (hi : i < 12) : W.cell? ⟨g, i, none⟩ = some (.int .i64 (p.h.getD i 0)) := by
  rw [cell_of_row _ _ _ _ _ _ h, List.getElem?_toArray, pcs_at hp i hi]
theorem fits_session (sz lo hi : Int) (w : World) (g : Nat) (v : Int) (C : ∀ o : Obj, (w.alloc o).cell? ⟨g, 1, none⟩ = some (.int .i64 v)) :
    Calls Tryd.prog 25 #[.agg #[.func (.func 67) #[] #[], .nilFunc, .int .i64 sz, .int .i64 lo, .int .i64 hi], .pointer (some ⟨g, 0, none⟩)] w fun e w' => e = .returned (.bool (decide (lo ≤ v) && decide (v ≤ hi))) ∧ Below w.heap.size w w' := by
  have B : ∀ o : Obj, Below w.heap.size w (w.alloc o) := fun o => (Below.refl _ _).alloc (Nat.le_refl _) _
  have Z := nil_row
  by_cases h1 : lo ≤ v
  · by_cases h2 : v ≤ hi
    · have d1 : decide (lo ≤ v) = true := decide_eq_true h1
      have d2 : decide (v ≤ hi) = true := decide_eq_true h2
      go_enter Tryd.func25, Tryd.ntmps25
      go_wp2_with (first
        | (go_at_call 67; refine (at_session _ g).mono ?_; rintro e w' ⟨rfl, rfl⟩))
      go_ret
      exact ⟨ret_bool (by rw [d1, d2]; rfl), B _⟩
    · have d1 : decide (lo ≤ v) = true := decide_eq_true h1
      have d2 : decide (v ≤ hi) = false := decide_eq_false h2
      go_enter Tryd.func25, Tryd.ntmps25
      go_wp2_with (first
        | (go_at_call 67; refine (at_session _ g).mono ?_; rintro e w' ⟨rfl, rfl⟩))
      go_ret
      exact ⟨ret_bool (by rw [d1, d2]; rfl), B _⟩
  · have d1 : decide (lo ≤ v) = false := decide_eq_false h1
    go_enter Tryd.func25, Tryd.ntmps25
    go_wp2_with (first
      | (go_at_call 67; refine (at_session _ g).mono ?_; rintro e w' ⟨rfl, rfl⟩))
    go_ret
    exact ⟨ret_bool (by rw [d1]; rfl), B _⟩
theorem fits_seq (sz lo hi : Int) (w : World) (g : Nat) (v : Int) (C : ∀ o : Obj, (w.alloc o).cell? ⟨g, 2, none⟩ = some (.int .i64 v)) :
    Calls Tryd.prog 25 #[.agg #[.func (.func 68) #[] #[], .nilFunc, .int .i64 sz, .int .i64 lo, .int .i64 hi], .pointer (some ⟨g, 0, none⟩)] w fun e w' => e = .returned (.bool (decide (lo ≤ v) && decide (v ≤ hi))) ∧ Below w.heap.size w w' := by
  have B : ∀ o : Obj, Below w.heap.size w (w.alloc o) := fun o => (Below.refl _ _).alloc (Nat.le_refl _) _
  have Z := nil_row
  by_cases h1 : lo ≤ v
  · by_cases h2 : v ≤ hi
    · have d1 : decide (lo ≤ v) = true := decide_eq_true h1
      have d2 : decide (v ≤ hi) = true := decide_eq_true h2
      go_enter Tryd.func25, Tryd.ntmps25
      go_wp2_with (first
        | (go_at_call 68; refine (at_seq _ g).mono ?_; rintro e w' ⟨rfl, rfl⟩))
      go_ret
      exact ⟨ret_bool (by rw [d1, d2]; rfl), B _⟩
    · have d1 : decide (lo ≤ v) = true := decide_eq_true h1
      have d2 : decide (v ≤ hi) = false := decide_eq_false h2
      go_enter Tryd.func25, Tryd.ntmps25
      go_wp2_with (first
        | (go_at_call 68; refine (at_seq _ g).mono ?_; rintro e w' ⟨rfl, rfl⟩))
      go_ret
      exact ⟨ret_bool (by rw [d1, d2]; rfl), B _⟩
  · have d1 : decide (lo ≤ v) = false := decide_eq_false h1
    go_enter Tryd.func25, Tryd.ntmps25
    go_wp2_with (first
      | (go_at_call 68; refine (at_seq _ g).mono ?_; rintro e w' ⟨rfl, rfl⟩))
    go_ret
    exact ⟨ret_bool (by rw [d1]; rfl), B _⟩
theorem fits_user (sz lo hi : Int) (w : World) (g : Nat) (v : Int) (C : ∀ o : Obj, (w.alloc o).cell? ⟨g, 3, none⟩ = some (.int .i64 v)) :
    Calls Tryd.prog 25 #[.agg #[.func (.func 66) #[] #[], .nilFunc, .int .i64 sz, .int .i64 lo, .int .i64 hi], .pointer (some ⟨g, 0, none⟩)] w fun e w' => e = .returned (.bool (decide (lo ≤ v) && decide (v ≤ hi))) ∧ Below w.heap.size w w' := by
  have B : ∀ o : Obj, Below w.heap.size w (w.alloc o) := fun o => (Below.refl _ _).alloc (Nat.le_refl _) _
  have Z := nil_row
  by_cases h1 : lo ≤ v
  · by_cases h2 : v ≤ hi
    · have d1 : decide (lo ≤ v) = true := decide_eq_true h1
      have d2 : decide (v ≤ hi) = true := decide_eq_true h2
      go_enter Tryd.func25, Tryd.ntmps25
      go_wp2_with (first
        | (go_at_call 66; refine (at_user _ g).mono ?_; rintro e w' ⟨rfl, rfl⟩))
      go_ret
      exact ⟨ret_bool (by rw [d1, d2]; rfl), B _⟩
    · have d1 : decide (lo ≤ v) = true := decide_eq_true h1
      have d2 : decide (v ≤ hi) = false := decide_eq_false h2
      go_enter Tryd.func25, Tryd.ntmps25
      go_wp2_with (first
        | (go_at_call 66; refine (at_user _ g).mono ?_; rintro e w' ⟨rfl, rfl⟩))
      go_ret
      exact ⟨ret_bool (by rw [d1, d2]; rfl), B _⟩
  · have d1 : decide (lo ≤ v) = false := decide_eq_false h1
    go_enter Tryd.func25, Tryd.ntmps25
    go_wp2_with (first
      | (go_at_call 66; refine (at_user _ g).mono ?_; rintro e w' ⟨rfl, rfl⟩))
    go_ret
    exact ⟨ret_bool (by rw [d1]; rfl), B _⟩
theorem fits_op (sz lo hi : Int) (w : World) (g : Nat) (v : Int) (C : ∀ o : Obj, (w.alloc o).cell? ⟨g, 4, none⟩ = some (.int .i64 v)) :
    Calls Tryd.prog 25 #[.agg #[.func (.func 71) #[] #[], .nilFunc, .int .i64 sz, .int .i64 lo, .int .i64 hi], .pointer (some ⟨g, 0, none⟩)] w fun e w' => e = .returned (.bool (decide (lo ≤ v) && decide (v ≤ hi))) ∧ Below w.heap.size w w' := by
  have B : ∀ o : Obj, Below w.heap.size w (w.alloc o) := fun o => (Below.refl _ _).alloc (Nat.le_refl _) _
  have Z := nil_row
  by_cases h1 : lo ≤ v
  · by_cases h2 : v ≤ hi
    · have d1 : decide (lo ≤ v) = true := decide_eq_true h1
      have d2 : decide (v ≤ hi) = true := decide_eq_true h2
      go_enter Tryd.func25, Tryd.ntmps25
      go_wp2_with (first
        | (go_at_call 71; refine (at_op _ g).mono ?_; rintro e w' ⟨rfl, rfl⟩))
      go_ret
      exact ⟨ret_bool (by rw [d1, d2]; rfl), B _⟩
    · have d1 : decide (lo ≤ v) = true := decide_eq_true h1
      have d2 : decide (v ≤ hi) = false := decide_eq_false h2
      go_enter Tryd.func25, Tryd.ntmps25
      go_wp2_with (first
        | (go_at_call 71; refine (at_op _ g).mono ?_; rintro e w' ⟨rfl, rfl⟩))
      go_ret
      exact ⟨ret_bool (by rw [d1, d2]; rfl), B _⟩
  · have d1 : decide (lo ≤ v) = false := decide_eq_false h1
    go_enter Tryd.func25, Tryd.ntmps25
    go_wp2_with (first
      | (go_at_call 71; refine (at_op _ g).mono ?_; rintro e w' ⟨rfl, rfl⟩))
    go_ret
    exact ⟨ret_bool (by rw [d1]; rfl), B _⟩
theorem fits_status (sz lo hi : Int) (w : World) (g : Nat) (v : Int) (C : ∀ o : Obj, (w.alloc o).cell? ⟨g, 5, none⟩ = some (.int .i64 v)) :
    Calls Tryd.prog 25 #[.agg #[.func (.func 70) #[] #[], .nilFunc, .int .i64 sz, .int .i64 lo, .int .i64 hi], .pointer (some ⟨g, 0, none⟩)] w fun e w' => e = .returned (.bool (decide (lo ≤ v) && decide (v ≤ hi))) ∧ Below w.heap.size w w' := by
  have B : ∀ o : Obj, Below w.heap.size w (w.alloc o) := fun o => (Below.refl _ _).alloc (Nat.le_refl _) _
  have Z := nil_row
  by_cases h1 : lo ≤ v
  · by_cases h2 : v ≤ hi
    · have d1 : decide (lo ≤ v) = true := decide_eq_true h1
      have d2 : decide (v ≤ hi) = true := decide_eq_true h2
      go_enter Tryd.func25, Tryd.ntmps25
      go_wp2_with (first
        | (go_at_call 70; refine (at_status _ g).mono ?_; rintro e w' ⟨rfl, rfl⟩))
      go_ret
      exact ⟨ret_bool (by rw [d1, d2]; rfl), B _⟩
    · have d1 : decide (lo ≤ v) = true := decide_eq_true h1
      have d2 : decide (v ≤ hi) = false := decide_eq_false h2
      go_enter Tryd.func25, Tryd.ntmps25
      go_wp2_with (first
        | (go_at_call 70; refine (at_status _ g).mono ?_; rintro e w' ⟨rfl, rfl⟩))
      go_ret
      exact ⟨ret_bool (by rw [d1, d2]; rfl), B _⟩
  · have d1 : decide (lo ≤ v) = false := decide_eq_false h1
    go_enter Tryd.func25, Tryd.ntmps25
    go_wp2_with (first
      | (go_at_call 70; refine (at_status _ g).mono ?_; rintro e w' ⟨rfl, rfl⟩))
    go_ret
    exact ⟨ret_bool (by rw [d1]; rfl), B _⟩
theorem fits_count (sz lo hi : Int) (w : World) (g : Nat) (v : Int) (C : ∀ o : Obj, (w.alloc o).cell? ⟨g, 6, none⟩ = some (.int .i64 v)) :
    Calls Tryd.prog 25 #[.agg #[.func (.func 73) #[] #[], .nilFunc, .int .i64 sz, .int .i64 lo, .int .i64 hi], .pointer (some ⟨g, 0, none⟩)] w fun e w' => e = .returned (.bool (decide (lo ≤ v) && decide (v ≤ hi))) ∧ Below w.heap.size w w' := by
  have B : ∀ o : Obj, Below w.heap.size w (w.alloc o) := fun o => (Below.refl _ _).alloc (Nat.le_refl _) _
  have Z := nil_row
  by_cases h1 : lo ≤ v
  · by_cases h2 : v ≤ hi
    · have d1 : decide (lo ≤ v) = true := decide_eq_true h1
      have d2 : decide (v ≤ hi) = true := decide_eq_true h2
      go_enter Tryd.func25, Tryd.ntmps25
      go_wp2_with (first
        | (go_at_call 73; refine (at_count _ g).mono ?_; rintro e w' ⟨rfl, rfl⟩))
      go_ret
      exact ⟨ret_bool (by rw [d1, d2]; rfl), B _⟩
    · have d1 : decide (lo ≤ v) = true := decide_eq_true h1
      have d2 : decide (v ≤ hi) = false := decide_eq_false h2
      go_enter Tryd.func25, Tryd.ntmps25
      go_wp2_with (first
        | (go_at_call 73; refine (at_count _ g).mono ?_; rintro e w' ⟨rfl, rfl⟩))
      go_ret
      exact ⟨ret_bool (by rw [d1, d2]; rfl), B _⟩
  · have d1 : decide (lo ≤ v) = false := decide_eq_false h1
    go_enter Tryd.func25, Tryd.ntmps25
    go_wp2_with (first
      | (go_at_call 73; refine (at_count _ g).mono ?_; rintro e w' ⟨rfl, rfl⟩))
    go_ret
    exact ⟨ret_bool (by rw [d1]; rfl), B _⟩
theorem fits_version (sz lo hi : Int) (w : World) (g : Nat) (v : Int) (C : ∀ o : Obj, (w.alloc o).cell? ⟨g, 7, none⟩ = some (.int .i64 v)) :
    Calls Tryd.prog 25 #[.agg #[.func (.func 72) #[] #[], .nilFunc, .int .i64 sz, .int .i64 lo, .int .i64 hi], .pointer (some ⟨g, 0, none⟩)] w fun e w' => e = .returned (.bool (decide (lo ≤ v) && decide (v ≤ hi))) ∧ Below w.heap.size w w' := by
  have B : ∀ o : Obj, Below w.heap.size w (w.alloc o) := fun o => (Below.refl _ _).alloc (Nat.le_refl _) _
  have Z := nil_row
  by_cases h1 : lo ≤ v
  · by_cases h2 : v ≤ hi
    · have d1 : decide (lo ≤ v) = true := decide_eq_true h1
      have d2 : decide (v ≤ hi) = true := decide_eq_true h2
      go_enter Tryd.func25, Tryd.ntmps25
      go_wp2_with (first
        | (go_at_call 72; refine (at_version _ g).mono ?_; rintro e w' ⟨rfl, rfl⟩))
      go_ret
      exact ⟨ret_bool (by rw [d1, d2]; rfl), B _⟩
    · have d1 : decide (lo ≤ v) = true := decide_eq_true h1
      have d2 : decide (v ≤ hi) = false := decide_eq_false h2
      go_enter Tryd.func25, Tryd.ntmps25
      go_wp2_with (first
        | (go_at_call 72; refine (at_version _ g).mono ?_; rintro e w' ⟨rfl, rfl⟩))
      go_ret
      exact ⟨ret_bool (by rw [d1, d2]; rfl), B _⟩
  · have d1 : decide (lo ≤ v) = false := decide_eq_false h1
    go_enter Tryd.func25, Tryd.ntmps25
    go_wp2_with (first
      | (go_at_call 72; refine (at_version _ g).mono ?_; rintro e w' ⟨rfl, rfl⟩))
    go_ret
    exact ⟨ret_bool (by rw [d1]; rfl), B _⟩
theorem fits_ack (sz lo hi : Int) (w : World) (g : Nat) (v : Int) (C : ∀ o : Obj, (w.alloc o).cell? ⟨g, 8, none⟩ = some (.int .i64 v)) :
    Calls Tryd.prog 25 #[.agg #[.func (.func 74) #[] #[], .nilFunc, .int .i64 sz, .int .i64 lo, .int .i64 hi], .pointer (some ⟨g, 0, none⟩)] w fun e w' => e = .returned (.bool (decide (lo ≤ v) && decide (v ≤ hi))) ∧ Below w.heap.size w w' := by
  have B : ∀ o : Obj, Below w.heap.size w (w.alloc o) := fun o => (Below.refl _ _).alloc (Nat.le_refl _) _
  have Z := nil_row
  by_cases h1 : lo ≤ v
  · by_cases h2 : v ≤ hi
    · have d1 : decide (lo ≤ v) = true := decide_eq_true h1
      have d2 : decide (v ≤ hi) = true := decide_eq_true h2
      go_enter Tryd.func25, Tryd.ntmps25
      go_wp2_with (first
        | (go_at_call 74; refine (at_ack _ g).mono ?_; rintro e w' ⟨rfl, rfl⟩))
      go_ret
      exact ⟨ret_bool (by rw [d1, d2]; rfl), B _⟩
    · have d1 : decide (lo ≤ v) = true := decide_eq_true h1
      have d2 : decide (v ≤ hi) = false := decide_eq_false h2
      go_enter Tryd.func25, Tryd.ntmps25
      go_wp2_with (first
        | (go_at_call 74; refine (at_ack _ g).mono ?_; rintro e w' ⟨rfl, rfl⟩))
      go_ret
      exact ⟨ret_bool (by rw [d1, d2]; rfl), B _⟩
  · have d1 : decide (lo ≤ v) = false := decide_eq_false h1
    go_enter Tryd.func25, Tryd.ntmps25
    go_wp2_with (first
      | (go_at_call 74; refine (at_ack _ g).mono ?_; rintro e w' ⟨rfl, rfl⟩))
    go_ret
    exact ⟨ret_bool (by rw [d1]; rfl), B _⟩
theorem fits_sack (sz lo hi : Int) (w : World) (g : Nat) (v : Int) (C : ∀ o : Obj, (w.alloc o).cell? ⟨g, 9, none⟩ = some (.int .i64 v)) :
    Calls Tryd.prog 25 #[.agg #[.func (.func 75) #[] #[], .nilFunc, .int .i64 sz, .int .i64 lo, .int .i64 hi], .pointer (some ⟨g, 0, none⟩)] w fun e w' => e = .returned (.bool (decide (lo ≤ v) && decide (v ≤ hi))) ∧ Below w.heap.size w w' := by
  have B : ∀ o : Obj, Below w.heap.size w (w.alloc o) := fun o => (Below.refl _ _).alloc (Nat.le_refl _) _
  have Z := nil_row
  by_cases h1 : lo ≤ v
  · by_cases h2 : v ≤ hi
    · have d1 : decide (lo ≤ v) = true := decide_eq_true h1
      have d2 : decide (v ≤ hi) = true := decide_eq_true h2
      go_enter Tryd.func25, Tryd.ntmps25
      go_wp2_with (first
        | (go_at_call 75; refine (at_sack _ g).mono ?_; rintro e w' ⟨rfl, rfl⟩))
      go_ret
      exact ⟨ret_bool (by rw [d1, d2]; rfl), B _⟩
    · have d1 : decide (lo ≤ v) = true := decide_eq_true h1
      have d2 : decide (v ≤ hi) = false := decide_eq_false h2
      go_enter Tryd.func25, Tryd.ntmps25
      go_wp2_with (first
        | (go_at_call 75; refine (at_sack _ g).mono ?_; rintro e w' ⟨rfl, rfl⟩))
      go_ret
      exact ⟨ret_bool (by rw [d1, d2]; rfl), B _⟩
  · have d1 : decide (lo ≤ v) = false := decide_eq_false h1
    go_enter Tryd.func25, Tryd.ntmps25
    go_wp2_with (first
      | (go_at_call 75; refine (at_sack _ g).mono ?_; rintro e w' ⟨rfl, rfl⟩))
    go_ret
    exact ⟨ret_bool (by rw [d1]; rfl), B _⟩
theorem fits_nonce (sz lo hi : Int) (w : World) (g : Nat) (v : Int) (C : ∀ o : Obj, (w.alloc o).cell? ⟨g, 10, none⟩ = some (.int .i64 v)) :
    Calls Tryd.prog 25 #[.agg #[.func (.func 63) #[] #[], .nilFunc, .int .i64 sz, .int .i64 lo, .int .i64 hi], .pointer (some ⟨g, 0, none⟩)] w fun e w' => e = .returned (.bool (decide (lo ≤ v) && decide (v ≤ hi))) ∧ Below w.heap.size w w' := by
  have B : ∀ o : Obj, Below w.heap.size w (w.alloc o) := fun o => (Below.refl _ _).alloc (Nat.le_refl _) _
  have Z := nil_row
  by_cases h1 : lo ≤ v
  · by_cases h2 : v ≤ hi
    · have d1 : decide (lo ≤ v) = true := decide_eq_true h1
      have d2 : decide (v ≤ hi) = true := decide_eq_true h2
      go_enter Tryd.func25, Tryd.ntmps25
      go_wp2_with (first
        | (go_at_call 63; refine (at_nonce _ g).mono ?_; rintro e w' ⟨rfl, rfl⟩))
      go_ret
      exact ⟨ret_bool (by rw [d1, d2]; rfl), B _⟩
    · have d1 : decide (lo ≤ v) = true := decide_eq_true h1
      have d2 : decide (v ≤ hi) = false := decide_eq_false h2
      go_enter Tryd.func25, Tryd.ntmps25
      go_wp2_with (first
        | (go_at_call 63; refine (at_nonce _ g).mono ?_; rintro e w' ⟨rfl, rfl⟩))
      go_ret
      exact ⟨ret_bool (by rw [d1, d2]; rfl), B _⟩
  · have d1 : decide (lo ≤ v) = false := decide_eq_false h1
    go_enter Tryd.func25, Tryd.ntmps25
    go_wp2_with (first
      | (go_at_call 63; refine (at_nonce _ g).mono ?_; rintro e w' ⟨rfl, rfl⟩))
    go_ret
    exact ⟨ret_bool (by rw [d1]; rfl), B _⟩
theorem fits_epoch (sz lo hi : Int) (w : World) (g : Nat) (v : Int) (C : ∀ o : Obj, (w.alloc o).cell? ⟨g, 11, none⟩ = some (.int .i64 v)) :
    Calls Tryd.prog 25 #[.agg #[.func (.func 64) #[] #[], .nilFunc, .int .i64 sz, .int .i64 lo, .int .i64 hi], .pointer (some ⟨g, 0, none⟩)] w fun e w' => e = .returned (.bool (decide (lo ≤ v) && decide (v ≤ hi))) ∧ Below w.heap.size w w' := by
  have B : ∀ o : Obj, Below w.heap.size w (w.alloc o) := fun o => (Below.refl _ _).alloc (Nat.le_refl _) _
  have Z := nil_row
  by_cases h1 : lo ≤ v
  · by_cases h2 : v ≤ hi
    · have d1 : decide (lo ≤ v) = true := decide_eq_true h1
      have d2 : decide (v ≤ hi) = true := decide_eq_true h2
      go_enter Tryd.func25, Tryd.ntmps25
      go_wp2_with (first
        | (go_at_call 64; refine (at_epoch _ g).mono ?_; rintro e w' ⟨rfl, rfl⟩))
      go_ret
      exact ⟨ret_bool (by rw [d1, d2]; rfl), B _⟩
    · have d1 : decide (lo ≤ v) = true := decide_eq_true h1
      have d2 : decide (v ≤ hi) = false := decide_eq_false h2
      go_enter Tryd.func25, Tryd.ntmps25
      go_wp2_with (first
        | (go_at_call 64; refine (at_epoch _ g).mono ?_; rintro e w' ⟨rfl, rfl⟩))
      go_ret
      exact ⟨ret_bool (by rw [d1, d2]; rfl), B _⟩
  · have d1 : decide (lo ≤ v) = false := decide_eq_false h1
    go_enter Tryd.func25, Tryd.ntmps25
    go_wp2_with (first
      | (go_at_call 64; refine (at_epoch _ g).mono ?_; rintro e w' ⟨rfl, rfl⟩))
    go_ret
    exact ⟨ret_bool (by rw [d1]; rfl), B _⟩
theorem fits_secret (sz lo hi : Int) (w : World) (g : Nat) :
    Calls Tryd.prog 25 #[.agg #[.nilFunc, .func (.func 65) #[] #[], .int .i64 sz, .int .i64 lo, .int .i64 hi], .pointer (some ⟨g, 0, none⟩)] w fun e w' => e = .returned (.bool (true)) ∧ Below w.heap.size w w' := by
  have B : ∀ o : Obj, Below w.heap.size w (w.alloc o) := fun o => (Below.refl _ _).alloc (Nat.le_refl _) _
  have Z := fun_row
  go_enter Tryd.func25, Tryd.ntmps25
  go_wp2
  go_ret
  exact ⟨rfl, B _⟩
theorem fits_tag (sz lo hi : Int) (w : World) (g : Nat) :
    Calls Tryd.prog 25 #[.agg #[.nilFunc, .func (.func 69) #[] #[], .int .i64 sz, .int .i64 lo, .int .i64 hi], .pointer (some ⟨g, 0, none⟩)] w fun e w' => e = .returned (.bool (true)) ∧ Below w.heap.size w w' := by
  have B : ∀ o : Obj, Below w.heap.size w (w.alloc o) := fun o => (Below.refl _ _).alloc (Nat.le_refl _) _
  have Z := fun_row
  go_enter Tryd.func25, Tryd.ntmps25
  go_wp2
  go_ret
  exact ⟨rfl, B _⟩
theorem fits_any (x : Pt5) (hx : x.Ok) (p : Pk) (hp : p.Wf) (w : World) (g : Nat) (R : w.heap[g]? = some (.cells (pcs p).toArray pkT)) :
    Calls Tryd.prog 25 #[.agg x.cs.toArray, .pointer (some ⟨g, 0, none⟩)] w fun e w' => e = .returned (.bool (x.fits p)) ∧ Below w.heap.size w w' := by
  have C := fun (i : Nat) (hi : i < 12) (o : Obj) => pk_cell (row_kept R ((Below.refl _ _).alloc (Nat.le_refl _) o) (row_lt R)) hp i hi
  obtain ⟨j, sz, lo, hi⟩ := x
  rcases j_cases hx with h | h | h | h | h | h | h | h | h | h | h | h | h
  all_goals
    simp only at h
    subst h
  · exact fits_session sz lo hi w g _ (C 1 (by decide))
  · exact fits_seq sz lo hi w g _ (C 2 (by decide))
  · exact fits_user sz lo hi w g _ (C 3 (by decide))
  · exact fits_op sz lo hi w g _ (C 4 (by decide))
  · exact fits_status sz lo hi w g _ (C 5 (by decide))
  · exact fits_count sz lo hi w g _ (C 6 (by decide))
  · exact fits_version sz lo hi w g _ (C 7 (by decide))
  · exact fits_ack sz lo hi w g _ (C 8 (by decide))
  · exact fits_sack sz lo hi w g _ (C 9 (by decide))
  · exact fits_nonce sz lo hi w g _ (C 10 (by decide))
  · exact fits_epoch sz lo hi w g _ (C 11 (by decide))
  · exact fits_secret sz lo hi w g
  · exact fits_tag sz lo hi w g
end Go.Proofs.YtpglhkjgcahdbaaDoor
