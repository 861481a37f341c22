/- What Put and Note of package board come to. -/
import Derived.Test.YtjmpafpampmncaaBoard
import Derived.Laws.ResultCell
import Derived.ChangeKeysEq
namespace Go.Proofs.Ytjmpafpampmncaa
open Go.ChangeShapes Go.WideShapes Go.ChangeAt Go.RowKit

theorem put_results {tmps : Array Value} {W : World} {g : Nat} {E : Bd} {r : Bool} (h6 : tmps.getD 6 undef = .pointer (some ⟨g, 0, none⟩)) (h7 : tmps.getD 7 undef = .bool r) (hW : W.heap[g]? = some (.cells (Bd.cs E) boT)) :
    (results Try.f11 tmps).run Try.prog W = .ok (.tuple #[.agg (Bd.cs E), .bool r]) W := by
  have hl := run_loadVar_mid (P := Try.prog) W g 0 boT (Bd.row E) _ (fun j v hv => by rw [Nat.zero_add, cell_of_row _ _ _ _ _ _ hW, Bd.cs, List.getElem?_toArray]; exact hv) Try.underlying25 rfl (by rw [info_board, Bd.row_len])
  rw [results_cell_tmp Try.results11 tmps Try.prog W, h6, h7]
  simp only [asAddr, Sem.run_pure, Result.andThen_ok, hl]
  rfl

/-- The two blocks that Put begins with. -/
theorem two_boards (w : World) (E : Bd) : ∃ V, (w.alloc (.cells (Bd.cs E) boT)).alloc (.cells (Bd.cs zeros) boT) = V ∧ V.heap[w.heap.size]? = some (.cells (Bd.cs E) boT) ∧ V.heap[w.heap.size + 1]? = some (.cells (Bd.cs zeros) boT) ∧ Below w.heap.size w V ∧ V.heap.size = w.heap.size + 2 := by
  refine ⟨_, rfl, (Below.heap_alloc _ _ _ (by simp)).trans (MapKept.heap_alloc w _).1, ?_, ((Below.refl _ _).alloc (Nat.le_refl _) _).alloc (by simp) _, by simp⟩
  have := (MapKept.heap_alloc (w.alloc (.cells (Bd.cs E) boT)) (.cells (Bd.cs zeros) boT)).1
  simpa using this

set_option maxHeartbeats 1000000 in
theorem put_bad (w : World) (E : Bd) (u : Int) (hu : ¬ (1 ≤ u ∧ u ≤ 16)) (A : Option Addr) (n cap : Nat) :
    Calls Try.prog 11 #[.agg (Bd.cs E), .int .i64 u, .slice A n cap] w fun e w' => e = .returned (.tuple #[.agg (Bd.cs E), .bool false]) ∧ Below w.heap.size w w' := by
  have z0 := zero_board
  have HU := Lib.hid (show decide (1 ≤ u ∧ u ≤ 16) = false from decide_eq_false hu)
  clear hu
  obtain ⟨V, hV, R0, R1, BV, SV⟩ := two_boards w E
  have hz := Bd.cs_size E
  have hs' := store_board' V (w.heap.size + 1) E zeros R1
  have BS := Lib.hid (setRow_below (t := boT) (cs := Bd.cs E) BV (show w.heap.size ≤ w.heap.size + 1 by omega))
  have RS := Lib.hid (setRow_row (t := boT) (cs := Bd.cs E) (row_lt R1))
  clear BV SV
  go_enter Try.func11, Try.ntmps11
  go_wp2_with (first
    | (go_at_call 17; refine (user_to HU.out _).mono ?_; rintro e w' ⟨rfl, rfl⟩)
    | ((with_reducible refine wpl_load ?_ (.tmp 3) ?_ w.heap.size E ?_ R0 ?_); (rfl); (rfl); (rfl))
    )
  exact bodyPost_ret (put_results rfl rfl RS.out) rfl ⟨rfl, BS.out⟩

set_option maxHeartbeats 2000000 in
theorem put_same (w : World) (E : Bd) (u : Nat) (hu : 1 ≤ u ∧ u ≤ 16) (A : Option Addr) (n cap : Nat) (l : List Int) (hn : l.length = n) (hN : Nums .i64 w A l) (hlen : n ≤ 9223372036854775807) (hsame : Bd.same E u l) :
    Calls Try.prog 11 #[.agg (Bd.cs E), .int .i64 u, .slice A n cap] w fun e w' => e = .returned (.tuple #[.agg (Bd.cs E), .bool false]) ∧ Below w.heap.size w w' := by
  have z0 := zero_board
  have HU := Lib.hid (show decide (1 ≤ (u : Int) ∧ (u : Int) ≤ 16) = true from decide_eq_true (by omega))
  obtain ⟨V, hV, R0, R1, BV, SV⟩ := two_boards w E
  have hz := Bd.cs_size E
  have Hn := Lib.hid hn
  have HN := Lib.hid (hN.below BV)
  have c0 : V.cell? ⟨w.heap.size, u * 3, none⟩ = _ := (row_cells R0 _).trans (Bd.cs_0 E u (by omega))
  have c1 : V.cell? ⟨w.heap.size, u * 3 + 1, none⟩ = _ := (row_cells R0 _).trans (Bd.cs_1 E u (by omega))
  have c2 : V.cell? ⟨w.heap.size, u * 3 + 2, none⟩ = _ := (row_cells R0 _).trans (Bd.cs_2 E u (by omega))
  have q1 : (u : Int) < 17 := by omega
  have q0 : (0 : Int) ≤ (u : Int) := by omega
  obtain ⟨p, hp⟩ : ∃ p, p = E u := ⟨_, rfl⟩
  obtain ⟨f, hf⟩ : ∃ f, f = Bd.fold l := ⟨_, rfl⟩
  unfold Bd.same at hsame
  rw [← hp] at c0 c1 c2
  rw [← hp, ← hf] at hsame
  have HF := Lib.hid hf
  have RA := Lib.hid (fun o => show (V.alloc o).heap[w.heap.size]? = _ from (Below.heap_alloc _ _ _ (row_lt R0)).trans R0)
  have hs' := fun o => store_board' (V.alloc o) (w.heap.size + 1) E zeros ((Below.heap_alloc _ _ _ (row_lt R1)).trans R1)
  have BS := Lib.hid (fun o => setRow_below (t := boT) (cs := Bd.cs E) (BV.alloc BV.size o) (show w.heap.size ≤ w.heap.size + 1 by omega))
  have RS := Lib.hid (fun o => setRow_row (t := boT) (cs := Bd.cs E) (w := V.alloc o) (g := w.heap.size + 1) (by have := row_lt R1; simp; omega))
  clear BV SV hp hf R0 R1 hn hN
  have hcase : (p.2.1 = f.1 ∧ p.2.2 = f.2) ∨ (p.2.1 = f.1 ∧ ¬ p.2.2 = f.2 ∧ 1073741824 ≤ p.1) ∨ (¬ p.2.1 = f.1 ∧ 1073741824 ≤ p.1) := by omega
  clear hsame
  obtain ⟨p0, p1, p2⟩ := p
  obtain ⟨f0, f1⟩ := f
  simp only at hcase c0 c1 c2
  rcases hcase with ⟨rfl, rfl⟩ | ⟨rfl, h2, h3⟩ | ⟨h2, h3⟩
  all_goals
    go_enter Try.func11, Try.ntmps11
    go_wp2_with (first
      | (go_at_call 17; refine (user_to HU.out _).mono ?_; rintro e w' ⟨rfl, rfl⟩)
      | (go_at_call 9; refine (fold_any _ A n cap l Hn.out HN.out hlen).mono ?_; rintro e w' ⟨rfl, rfl⟩; rw [← HF.out])
      | ((with_reducible refine wpl_load ?_ (.tmp 3) ?_ w.heap.size E ?_ (RA.out _) ?_); (rfl); (rfl); (rfl))
      )
    exact bodyPost_ret (put_results rfl rfl (RS.out _)) rfl ⟨rfl, BS.out _⟩

set_option maxHeartbeats 2000000 in
theorem put_ok (w : World) (E : Bd) (u : Nat) (hu : 1 ≤ u ∧ u ≤ 16) (A : Option Addr) (n cap : Nat) (l : List Int) (hn : l.length = n) (hN : Nums .i64 w A l) (hlen : n ≤ 9223372036854775807) (hsame : ¬ Bd.same E u l) (hlow : -9223372036854775808 ≤ (E u).1) :
    Calls Try.prog 11 #[.agg (Bd.cs E), .int .i64 u, .slice A n cap] w fun e w' => e = .returned (.tuple #[.agg (Bd.cs (Bd.upd E u ((E u).1 + 1, (Bd.fold l).1, (Bd.fold l).2))), .bool true]) ∧ Below w.heap.size w w' := by
  have z0 := zero_board
  have HU := Lib.hid (show decide (1 ≤ (u : Int) ∧ (u : Int) ≤ 16) = true from decide_eq_true (by omega))
  obtain ⟨V, hV, R0, R1, BV, SV⟩ := two_boards w E
  have Hn := Lib.hid hn
  have HN := Lib.hid (hN.below BV)
  have c0 : V.cell? ⟨w.heap.size, u * 3, none⟩ = _ := (row_cells R0 _).trans (Bd.cs_0 E u (by omega))
  have c1 : V.cell? ⟨w.heap.size, u * 3 + 1, none⟩ = _ := (row_cells R0 _).trans (Bd.cs_1 E u (by omega))
  have c2 : V.cell? ⟨w.heap.size, u * 3 + 2, none⟩ = _ := (row_cells R0 _).trans (Bd.cs_2 E u (by omega))
  have hset := Bd.cs_upd E u (by omega) ((E u).1 + 1) (Bd.fold l).1 (Bd.fold l).2
  have d0 := Bd.cs_0 E u (by omega)
  have d1 : ((Bd.cs E).setIfInBounds (u * 3) (.int .i64 ((E u).1 + 1)))[u * 3 + 1]? = some (.int .i64 (E u).2.1) := by
    rw [Array.getElem?_setIfInBounds, if_neg (by omega)]; exact Bd.cs_1 E u (by omega)
  have d2 : (((Bd.cs E).setIfInBounds (u * 3) (.int .i64 ((E u).1 + 1))).setIfInBounds (u * 3 + 1) (.int .i64 (Bd.fold l).1))[u * 3 + 2]? = some (.int .i64 (E u).2.2) := by
    rw [Array.getElem?_setIfInBounds, if_neg (by omega), Array.getElem?_setIfInBounds, if_neg (by omega)]; exact Bd.cs_2 E u (by omega)
  have q1 : (u : Int) < 17 := by omega
  have q0 : (0 : Int) ≤ (u : Int) := by omega
  obtain ⟨p, hp⟩ : ∃ p, p = E u := ⟨_, rfl⟩
  obtain ⟨f, hf⟩ : ∃ f, f = Bd.fold l := ⟨_, rfl⟩
  unfold Bd.same at hsame
  rw [← hp] at c0 c1 c2 d0 hlow
  rw [← hp] at d1
  rw [← hp, ← hf] at d2 hsame hset ⊢
  have HF := Lib.hid hf
  have gA : ∀ o : Obj, w.heap.size < (V.alloc o).heap.size := fun o => by have := row_lt R0; simp; omega
  have RA : ∀ o, (V.alloc o).heap[w.heap.size]? = some (.cells (Bd.cs E) boT) := fun o => (Below.heap_alloc _ _ _ (row_lt R0)).trans R0
  have RB : ∀ o, (V.alloc o).heap[w.heap.size + 1]? = some (.cells (Bd.cs zeros) boT) := fun o => (Below.heap_alloc _ _ _ (row_lt R1)).trans R1
  have sA0 := fun o => (rows1 (RA o)).set0
  have sA1 := fun o => (rows1 (RA o)).set1
  have fA0 := fun o => (rows1 (RA o)).frozen0
  have fA1 := fun o => (rows1 (RA o)).frozen1
  have cA0 := fun o => (rows1 (RA o)).cell0
  have cA1 := fun o => (rows1 (RA o)).cell1
  have zc := Bd.cs_size E
  obtain ⟨E', hE'⟩ : ∃ E', E' = Bd.upd E u (p.1 + 1, f.1, f.2) := ⟨_, rfl⟩
  rw [← hE'] at hset ⊢
  have hz := Bd.cs_size E'
  have RX := Lib.hid (fun o => setRow_row (t := boT) (cs := Bd.cs E') (gA o))
  have RY : ∀ o, (setRow (V.alloc o) w.heap.size boT (Bd.cs E')).heap[w.heap.size + 1]? = some (.cells (Bd.cs zeros) boT) := fun o => (setRow_far (by omega)).trans (RB o)
  have hs' := fun o => store_board' (setRow (V.alloc o) w.heap.size boT (Bd.cs E')) (w.heap.size + 1) E' zeros (RY o)
  have BX := fun o => setRow_below (t := boT) (cs := Bd.cs E') (BV.alloc BV.size o) (Nat.le_refl _)
  have BS := Lib.hid (fun o => setRow_below (t := boT) (cs := Bd.cs E') (BX o) (show w.heap.size ≤ w.heap.size + 1 by omega))
  have RS := Lib.hid (fun o => setRow_row (t := boT) (cs := Bd.cs E') (row_lt (RY o)))
  clear BV SV hp hf R0 R1 hn hN RA RB RY BX hE' gA
  obtain ⟨p0, p1, p2⟩ := p
  obtain ⟨f0, f1⟩ := f
  simp only at hsame c0 c1 c2 d0 d1 d2 hset hlow
  have hcase : (p1 = f0 ∧ (p2 == f1) = false ∧ p0 < 1073741824) ∨ ((p1 == f0) = false ∧ p0 < 1073741824) := by
    by_cases h : p1 = f0
    · exact Or.inl ⟨h, by simp; omega, by omega⟩
    · exact Or.inr ⟨by simpa using h, by omega⟩
  have e1 : IntKind.i64.wrap (p0 + 1) = p0 + 1 := IntWalk.i64_in _ (by omega)
  clear hsame
  rcases hcase with ⟨rfl, h2, h3⟩ | ⟨h2, h3⟩
  all_goals
    go_enter Try.func11, Try.ntmps11
    go_wp2_with (first
      | (go_at_call 17; refine (user_to HU.out _).mono ?_; rintro e w' ⟨rfl, rfl⟩)
      | (go_at_call 9; refine (fold_any _ A n cap l Hn.out HN.out hlen).mono ?_; rintro e w' ⟨rfl, rfl⟩; rw [← HF.out])
      | ((with_reducible refine wpl_load ?_ (.tmp 3) ?_ w.heap.size E' ?_ (RX.out _) ?_); (rfl); (rfl); (rfl))
      )
    exact bodyPost_ret (put_results rfl rfl (RS.out _)) rfl ⟨rfl, BS.out _⟩

/-- Put, by the document. -/
theorem put_any (w : World) (E : Bd) (u : Int) (A : Option Addr) (n cap : Nat) (l : List Int) (hn : l.length = n) (hN : Nums .i64 w A l) (hlen : n ≤ 9223372036854775807) (hlow : ∀ i, -9223372036854775808 ≤ (E i).1) :
    Calls Try.prog 11 #[.agg (Bd.cs E), .int .i64 u, .slice A n cap] w fun e w' => e = .returned (.tuple #[.agg (Bd.cs (Bd.put E u l)), .bool (Bd.ok E u l)]) ∧ Below w.heap.size w w' := by
  by_cases hu : 1 ≤ u ∧ u ≤ 16
  · obtain ⟨k, rfl⟩ : ∃ k : Nat, u = k := ⟨u.toNat, by omega⟩
    by_cases hs : Bd.same E k l
    · have e : Bd.ok E (k : Int) l = false := by unfold Bd.ok; rw [Int.toNat_natCast]; exact decide_eq_false (fun h => h.2.2 hs)
      have e2 : Bd.put E (k : Int) l = E := by unfold Bd.put; rw [e]; rfl
      rw [e, e2]
      exact put_same w E k (by omega) A n cap l hn hN hlen hs
    · have e : Bd.ok E (k : Int) l = true := by unfold Bd.ok; rw [Int.toNat_natCast]; exact decide_eq_true ⟨hu.1, hu.2, hs⟩
      have e2 : Bd.put E (k : Int) l = Bd.upd E k ((E k).1 + 1, (Bd.fold l).1, (Bd.fold l).2) := by unfold Bd.put; rw [e, Int.toNat_natCast]; rfl
      rw [e, e2]
      exact put_ok w E k (by omega) A n cap l hn hN hlen hs (hlow k)
  · have e : Bd.ok E u l = false := decide_eq_false (fun h => hu ⟨h.1, h.2.1⟩)
    have e2 : Bd.put E u l = E := by unfold Bd.put; rw [e]; rfl
    rw [e, e2]
    exact put_bad w E u hu A n cap

/-- A board is the same as itself. -/
theorem part_at (W : World) (E : Bd) (i : Nat) (h : i < 17) : (part enT (Bd.cs E) (i * 3)).run Try.prog W = .ok (.agg #[.int .i64 (E i).1, .int .i64 (E i).2.1, .int .i64 (E i).2.2]) W := by
  have e : (Bd.cs E).extract (i * 3) (i * 3 + 3) = #[.int .i64 (E i).1, .int .i64 (E i).2.1, .int .i64 (E i).2.2] := by
    apply Array.ext_getElem?
    intro j
    rw [Array.getElem?_extract, Bd.cs_size]
    by_cases hj : j < 3
    · rw [if_pos (by omega)]
      have : j = 0 ∨ j = 1 ∨ j = 2 := by omega
      rcases this with rfl | rfl | rfl
      · exact Bd.cs_0 E i h
      · exact Bd.cs_1 E i h
      · exact Bd.cs_2 E i h
    · rw [if_neg (by omega), Array.getElem?_eq_none (by simp; omega)]
  unfold part
  have hs : (isAgg enT).run Try.prog W = .ok true W := by kernel_rfl
  have hz : (sizeOf enT).run Try.prog W = .ok 3 W := by kernel_rfl
  simp only [Sem.run_bind, hs, hz, Result.andThen_ok, Sem.run_pure, if_true, e]
theorem entry_refl (W : World) (d : Nat) (a b c : Int) : (Op.equalIn (d + 2) enT (.agg #[.int .i64 a, .int .i64 b, .int .i64 c]) (.agg #[.int .i64 a, .int .i64 b, .int .i64 c])).run Try.prog W = .ok true W := by
  simp [go_sem]
theorem items_refl (W : World) (d : Nat) (E : Bd) : ∀ is : List Nat, (∀ i ∈ is, i < 17) → (Op.eqItems (d + 2) enT 3 (Bd.cs E) (Bd.cs E) is).run Try.prog W = .ok true W
  | [], _ => rfl
  | i :: is, h => by
    have hp := part_at W E i (h i (List.mem_cons_self ..))
    have he := entry_refl W d (E i).1 (E i).2.1 (E i).2.2
    have ih := items_refl W d E is (fun j hj => h j (List.mem_cons_of_mem _ hj))
    simp only [Op.eqItems, Sem.run_bind, hp, he, ih, Result.andThen_ok, Bool.not_true, Bool.false_eq_true, if_false]
theorem eql_refl (W : World) (E : Bd) : (Op.equalIn 10000 boT (.agg (Bd.cs E)) (.agg (Bd.cs E))).run Try.prog W = .ok true W := by
  have hi : (Try.prog.info? enT).isSome = true := by kernel_rfl
  obtain ⟨i, hi⟩ := Option.isSome_iff_exists.1 hi
  have hc : Try.prog.cellsOf enT = 3 := by kernel_rfl
  rw [show (10000 : Nat) = 9999 + 1 from rfl, run_equalIn_array W 9999 (Bd.cs E) (Bd.cs E) Try.underlying25 hi, hc]
  exact items_refl W 9997 E (List.range 17) (fun i h => List.mem_range.1 h)
end Go.Proofs.Ytjmpafpampmncaa
