/- What the document's own answers of layer 19 come to, and a note that comes in. -/
import Derived.Test.YtjmpafpampmncaaBoard4
import Derived.Test.YtjmpafpampmncaaTail
namespace Go.Proofs.Ytjmpafpampmncaa
open Go.ChangeShapes Go.WideShapes Go.ChangeAt Go.RowKit

theorem rfold_any (w : World) (A : Option Addr) (n cap : Nat) (l : List Int) (hn : l.length = n) (hN : Nums .i64 w A l) (hlen : n ≤ 9223372036854775807) :
    Calls Try.prog 10 #[.slice A n cap] w fun e w' => e = .returned (.tuple #[.int .i64 (Bd.fold l).1, .int .i64 (Bd.fold l).2]) ∧ w = w' := by
  have Hn := Lib.hid hn
  have HN := Lib.hid hN
  clear hn hN
  go_enter Try.func10, Try.ntmps10
  go_wp2
  go_loop [4, 5, 6] (fun g c i => ∃ k : Nat, k ≤ n ∧ i = .int .i64 k ∧ g = .int .i64 (Bd.fold (l.take k)).1 ∧ c = .int .i64 (Bd.fold (l.take k)).2) (fun _ _ i => n - (intOf i).toNat)
  case atStart => exact ⟨0, Nat.zero_le _, rfl, rfl, rfl⟩
  case round =>
    obtain ⟨k, hk, rfl, rfl, rfl⟩ := hrel
    by_cases hlt : k < n
    · rcases HN.out with h0 | ⟨b, off, rfl, hb, hc⟩
      · have := Hn.out; rw [h0] at this; simp at this; omega
      have hcell : w.cell? ⟨b, off + k, none⟩ = some (.int .i64 (l.getD k 0)) := hc k (by rw [Hn.out]; exact hlt)
      have Hs := Lib.hid (Bd.fold_snoc l k (by rw [Hn.out]; exact hlt))
      have hbd := Bd.fold_bd (l.take k)
      generalize Bd.fold (l.take k) = p at Hs hbd ⊢
      generalize l.getD k 0 = s at hcell Hs
      clear hc
      have q1 : (k : Int) < (n : Int) := by omega
      have q0 : (0 : Int) ≤ (k : Int) := by omega
      have e1 : IntKind.i64.wrap (p.2 + 1) = p.2 + 1 := IntWalk.i64_in _ (by omega)
      have hcase : ((s < 1) ∨ (1 ≤ s ∧ 3 < s)) ∨ (1 ≤ s ∧ s ≤ 3) := by omega
      rcases hcase with hh | ⟨h0, h⟩
      · have Hs2 := Lib.hid (show Bd.step p s = p by unfold Bd.step; rw [if_neg (by omega)])
        rcases hh with h | ⟨h0, h⟩
        all_goals
          go_wp2
          go_round
          case rel => exact ⟨k + 1, by omega, by go_num, by rw [Hs.out, Hs2.out], by rw [Hs.out, Hs2.out]⟩
          case measure => simp [intOf]; omega
      · have Hs2 := Lib.hid (show Bd.step p s = (max p.1 s, min (p.2 + 1) 4) by unfold Bd.step; rw [if_pos ⟨h0, h⟩])
        go_wp2
        all_goals
          go_round
          case rel => exact ⟨k + 1, by omega, by go_num, by rw [Hs.out, Hs2.out]; simp only; go_num, by rw [Hs.out, Hs2.out]; simp only; go_num⟩
          case measure => simp [intOf]; omega
    · obtain rfl : k = n := by omega
      have e : l.take k = l := List.take_of_length_le (by rw [Hn.out]; exact Nat.le_refl _)
      rw [e]
      go_wp2
      go_ret2
      exact ⟨rfl, rfl⟩
theorem rput_results {tmps : Array Value} {W : World} {g : Nat} {E : Bd} {r : Bool} (h6 : tmps.getD 6 undef = .pointer (some ⟨g, 0, none⟩)) (h7 : tmps.getD 7 undef = .bool r) (hW : W.heap[g]? = some (.cells (Bd.cs E) boT)) :
    (results Try.f12 tmps).run Try.prog W = .ok (.tuple #[.agg (Bd.cs E), .bool r]) W := by
  have hl := run_loadVar_mid (P := Try.prog) W g 0 boT (Bd.row E) _ (fun j v hv => by rw [Nat.zero_add, cell_of_row _ _ _ _ _ _ hW, Bd.cs, List.getElem?_toArray]; exact hv) Try.underlying25 rfl (by rw [info_board, Bd.row_len])
  rw [results_cell_tmp Try.results12 tmps Try.prog W, h6, h7]
  simp only [asAddr, Sem.run_pure, Result.andThen_ok, hl]
  rfl

set_option maxHeartbeats 1000000 in
theorem rput_bad (w : World) (E : Bd) (u : Int) (hu : ¬ (1 ≤ u ∧ u ≤ 16)) (A : Option Addr) (n cap : Nat) :
    Calls Try.prog 12 #[.agg (Bd.cs E), .int .i64 u, .slice A n cap] w fun e w' => e = .returned (.tuple #[.agg (Bd.cs E), .bool false]) ∧ Below w.heap.size w w' := by
  have z0 := zero_board
  have hcase : u < 1 ∨ (1 ≤ u ∧ 16 < u) := by omega
  clear hu
  obtain ⟨V, hV, R0, R1, BV, SV⟩ := two_boards w E
  have hz := Bd.cs_size E
  have hs' := store_board' V (w.heap.size + 1) E zeros R1
  have BS := Lib.hid (setRow_below (t := boT) (cs := Bd.cs E) BV (show w.heap.size ≤ w.heap.size + 1 by omega))
  have RS := Lib.hid (setRow_row (t := boT) (cs := Bd.cs E) (row_lt R1))
  clear BV SV
  rcases hcase with h | ⟨h0, h⟩
  all_goals
    go_enter Try.func12, Try.ntmps12
    go_wp2_with (first
      | ((with_reducible refine wpl_load ?_ (.tmp 3) ?_ w.heap.size E ?_ R0 ?_); (rfl); (rfl); (rfl))
      )
    exact bodyPost_ret (rput_results rfl rfl RS.out) rfl ⟨rfl, BS.out⟩

set_option maxHeartbeats 2000000 in
theorem rput_same (w : World) (E : Bd) (u : Nat) (hu : 1 ≤ u ∧ u ≤ 16) (A : Option Addr) (n cap : Nat) (l : List Int) (hn : l.length = n) (hN : Nums .i64 w A l) (hlen : n ≤ 9223372036854775807) (hsame : Bd.same E u l) :
    Calls Try.prog 12 #[.agg (Bd.cs E), .int .i64 u, .slice A n cap] w fun e w' => e = .returned (.tuple #[.agg (Bd.cs E), .bool false]) ∧ Below w.heap.size w w' := by
  have z0 := zero_board
  have u1 : (1 : Int) ≤ (u : Int) := by omega
  have u2 : (u : Int) ≤ 16 := by omega
  obtain ⟨V, hV, R0, R1, BV, SV⟩ := two_boards w E
  have hz := Bd.cs_size E
  have Hn := Lib.hid hn
  have HN := Lib.hid (hN.below BV)
  have c0 : V.cell? ⟨w.heap.size, u * 3, none⟩ = _ := (row_cells R0 _).trans (Bd.cs_0 E u (by omega))
  have c1 : V.cell? ⟨w.heap.size, u * 3 + 1, none⟩ = _ := (row_cells R0 _).trans (Bd.cs_1 E u (by omega))
  have c2 : V.cell? ⟨w.heap.size, u * 3 + 2, none⟩ = _ := (row_cells R0 _).trans (Bd.cs_2 E u (by omega))
  have q1 : (u : Int) < 17 := by omega
  have q0 : (0 : Int) ≤ (u : Int) := by omega
  obtain ⟨p, hp⟩ : ∃ p, p = E u := ⟨_, rfl⟩
  obtain ⟨f, hf⟩ : ∃ f, f = Bd.fold l := ⟨_, rfl⟩
  unfold Bd.same at hsame
  rw [← hp] at c0 c1 c2
  rw [← hp, ← hf] at hsame
  have HF := Lib.hid hf
  have RA := Lib.hid (fun o => show (V.alloc o).heap[w.heap.size]? = _ from (Below.heap_alloc _ _ _ (row_lt R0)).trans R0)
  have hs' := fun o => store_board' (V.alloc o) (w.heap.size + 1) E zeros ((Below.heap_alloc _ _ _ (row_lt R1)).trans R1)
  have BS := Lib.hid (fun o => setRow_below (t := boT) (cs := Bd.cs E) (BV.alloc BV.size o) (show w.heap.size ≤ w.heap.size + 1 by omega))
  have RS := Lib.hid (fun o => setRow_row (t := boT) (cs := Bd.cs E) (w := V.alloc o) (g := w.heap.size + 1) (by have := row_lt R1; simp; omega))
  clear BV SV hp hf R0 R1 hn hN
  have hcase : (p.2.1 = f.1 ∧ p.2.2 = f.2) ∨ (p.2.1 = f.1 ∧ ¬ p.2.2 = f.2 ∧ 1073741824 ≤ p.1) ∨ (¬ p.2.1 = f.1 ∧ 1073741824 ≤ p.1) := by omega
  clear hsame
  obtain ⟨p0, p1, p2⟩ := p
  obtain ⟨f0, f1⟩ := f
  simp only at hcase c0 c1 c2
  rcases hcase with ⟨rfl, rfl⟩ | ⟨rfl, h2, h3⟩ | ⟨h2, h3⟩
  all_goals
    go_enter Try.func12, Try.ntmps12
    go_wp2_with (first
      | (go_at_call 10; refine (rfold_any _ A n cap l Hn.out HN.out hlen).mono ?_; rintro e w' ⟨rfl, rfl⟩; rw [← HF.out])
      | ((with_reducible refine wpl_load ?_ (.tmp 3) ?_ w.heap.size E ?_ (RA.out _) ?_); (rfl); (rfl); (rfl))
      )
    exact bodyPost_ret (rput_results rfl rfl (RS.out _)) rfl ⟨rfl, BS.out _⟩

set_option maxHeartbeats 2000000 in
theorem rput_ok (w : World) (E : Bd) (u : Nat) (hu : 1 ≤ u ∧ u ≤ 16) (A : Option Addr) (n cap : Nat) (l : List Int) (hn : l.length = n) (hN : Nums .i64 w A l) (hlen : n ≤ 9223372036854775807) (hsame : ¬ Bd.same E u l) (hlow : -9223372036854775808 ≤ (E u).1) :
    Calls Try.prog 12 #[.agg (Bd.cs E), .int .i64 u, .slice A n cap] w fun e w' => e = .returned (.tuple #[.agg (Bd.cs (Bd.upd E u ((E u).1 + 1, (Bd.fold l).1, (Bd.fold l).2))), .bool true]) ∧ Below w.heap.size w w' := by
  have z0 := zero_board
  have u1 : (1 : Int) ≤ (u : Int) := by omega
  have u2 : (u : Int) ≤ 16 := by omega
  obtain ⟨V, hV, R0, R1, BV, SV⟩ := two_boards w E
  have Hn := Lib.hid hn
  have HN := Lib.hid (hN.below BV)
  have c0 : V.cell? ⟨w.heap.size, u * 3, none⟩ = _ := (row_cells R0 _).trans (Bd.cs_0 E u (by omega))
  have c1 : V.cell? ⟨w.heap.size, u * 3 + 1, none⟩ = _ := (row_cells R0 _).trans (Bd.cs_1 E u (by omega))
  have c2 : V.cell? ⟨w.heap.size, u * 3 + 2, none⟩ = _ := (row_cells R0 _).trans (Bd.cs_2 E u (by omega))
  have hset := Bd.cs_upd E u (by omega) ((E u).1 + 1) (Bd.fold l).1 (Bd.fold l).2
  have d0 := Bd.cs_0 E u (by omega)
  have d1 : ((Bd.cs E).setIfInBounds (u * 3) (.int .i64 ((E u).1 + 1)))[u * 3 + 1]? = some (.int .i64 (E u).2.1) := by
    rw [Array.getElem?_setIfInBounds, if_neg (by omega)]; exact Bd.cs_1 E u (by omega)
  have d2 : (((Bd.cs E).setIfInBounds (u * 3) (.int .i64 ((E u).1 + 1))).setIfInBounds (u * 3 + 1) (.int .i64 (Bd.fold l).1))[u * 3 + 2]? = some (.int .i64 (E u).2.2) := by
    rw [Array.getElem?_setIfInBounds, if_neg (by omega), Array.getElem?_setIfInBounds, if_neg (by omega)]; exact Bd.cs_2 E u (by omega)
  have q1 : (u : Int) < 17 := by omega
  have q0 : (0 : Int) ≤ (u : Int) := by omega
  obtain ⟨p, hp⟩ : ∃ p, p = E u := ⟨_, rfl⟩
  obtain ⟨f, hf⟩ : ∃ f, f = Bd.fold l := ⟨_, rfl⟩
  unfold Bd.same at hsame
  rw [← hp] at c0 c1 c2 d0 hlow
  rw [← hp] at d1
  rw [← hp, ← hf] at d2 hsame hset ⊢
  have HF := Lib.hid hf
  have gA : ∀ o : Obj, w.heap.size < (V.alloc o).heap.size := fun o => by have := row_lt R0; simp; omega
  have RA : ∀ o, (V.alloc o).heap[w.heap.size]? = some (.cells (Bd.cs E) boT) := fun o => (Below.heap_alloc _ _ _ (row_lt R0)).trans R0
  have RB : ∀ o, (V.alloc o).heap[w.heap.size + 1]? = some (.cells (Bd.cs zeros) boT) := fun o => (Below.heap_alloc _ _ _ (row_lt R1)).trans R1
  have sA0 := fun o => (rows1 (RA o)).set0
  have sA1 := fun o => (rows1 (RA o)).set1
  have fA0 := fun o => (rows1 (RA o)).frozen0
  have fA1 := fun o => (rows1 (RA o)).frozen1
  have cA0 := fun o => (rows1 (RA o)).cell0
  have cA1 := fun o => (rows1 (RA o)).cell1
  have zc := Bd.cs_size E
  obtain ⟨E', hE'⟩ : ∃ E', E' = Bd.upd E u (p.1 + 1, f.1, f.2) := ⟨_, rfl⟩
  rw [← hE'] at hset ⊢
  have hz := Bd.cs_size E'
  have RX := Lib.hid (fun o => setRow_row (t := boT) (cs := Bd.cs E') (gA o))
  have RY : ∀ o, (setRow (V.alloc o) w.heap.size boT (Bd.cs E')).heap[w.heap.size + 1]? = some (.cells (Bd.cs zeros) boT) := fun o => (setRow_far (by omega)).trans (RB o)
  have hs' := fun o => store_board' (setRow (V.alloc o) w.heap.size boT (Bd.cs E')) (w.heap.size + 1) E' zeros (RY o)
  have BX := fun o => setRow_below (t := boT) (cs := Bd.cs E') (BV.alloc BV.size o) (Nat.le_refl _)
  have BS := Lib.hid (fun o => setRow_below (t := boT) (cs := Bd.cs E') (BX o) (show w.heap.size ≤ w.heap.size + 1 by omega))
  have RS := Lib.hid (fun o => setRow_row (t := boT) (cs := Bd.cs E') (row_lt (RY o)))
  clear BV SV hp hf R0 R1 hn hN RA RB RY BX hE' gA
  obtain ⟨p0, p1, p2⟩ := p
  obtain ⟨f0, f1⟩ := f
  simp only at hsame c0 c1 c2 d0 d1 d2 hset hlow
  have hcase : (p1 = f0 ∧ (p2 == f1) = false ∧ p0 < 1073741824) ∨ ((p1 == f0) = false ∧ p0 < 1073741824) := by
    by_cases h : p1 = f0
    · exact Or.inl ⟨h, by simp; omega, by omega⟩
    · exact Or.inr ⟨by simpa using h, by omega⟩
  have e1 : IntKind.i64.wrap (p0 + 1) = p0 + 1 := IntWalk.i64_in _ (by omega)
  clear hsame
  rcases hcase with ⟨rfl, h2, h3⟩ | ⟨h2, h3⟩
  all_goals
    go_enter Try.func12, Try.ntmps12
    go_wp2_with (first
      | (go_at_call 10; refine (rfold_any _ A n cap l Hn.out HN.out hlen).mono ?_; rintro e w' ⟨rfl, rfl⟩; rw [← HF.out])
      | ((with_reducible refine wpl_load ?_ (.tmp 3) ?_ w.heap.size E' ?_ (RX.out _) ?_); (rfl); (rfl); (rfl))
      )
    exact bodyPost_ret (rput_results rfl rfl (RS.out _)) rfl ⟨rfl, BS.out _⟩

/-- Put, by the document. -/
theorem rput_any (w : World) (E : Bd) (u : Int) (A : Option Addr) (n cap : Nat) (l : List Int) (hn : l.length = n) (hN : Nums .i64 w A l) (hlen : n ≤ 9223372036854775807) (hlow : ∀ i, -9223372036854775808 ≤ (E i).1) :
    Calls Try.prog 12 #[.agg (Bd.cs E), .int .i64 u, .slice A n cap] w fun e w' => e = .returned (.tuple #[.agg (Bd.cs (Bd.put E u l)), .bool (Bd.ok E u l)]) ∧ Below w.heap.size w w' := by
  by_cases hu : 1 ≤ u ∧ u ≤ 16
  · obtain ⟨k, rfl⟩ : ∃ k : Nat, u = k := ⟨u.toNat, by omega⟩
    by_cases hs : Bd.same E k l
    · have e : Bd.ok E (k : Int) l = false := by unfold Bd.ok; rw [Int.toNat_natCast]; exact decide_eq_false (fun h => h.2.2 hs)
      have e2 : Bd.put E (k : Int) l = E := by unfold Bd.put; rw [e]; rfl
      rw [e, e2]
      exact rput_same w E k (by omega) A n cap l hn hN hlen hs
    · have e : Bd.ok E (k : Int) l = true := by unfold Bd.ok; rw [Int.toNat_natCast]; exact decide_eq_true ⟨hu.1, hu.2, hs⟩
      have e2 : Bd.put E (k : Int) l = Bd.upd E k ((E k).1 + 1, (Bd.fold l).1, (Bd.fold l).2) := by unfold Bd.put; rw [e, Int.toNat_natCast]; rfl
      rw [e, e2]
      exact rput_ok w E k (by omega) A n cap l hn hN hlen hs (hlow k)
  · have e : Bd.ok E u l = false := decide_eq_false (fun h => hu ⟨h.1, h.2.1⟩)
    have e2 : Bd.put E u l = E := by unfold Bd.put; rw [e]; rfl
    rw [e, e2]
    exact rput_bad w E u hu A n cap

set_option maxHeartbeats 1000000 in
theorem rnote_to {E : Bd} {u a b c d : Int} (h : Bd.note E u = (a, b, c, d)) (w : World) :
    Calls Try.prog 14 #[.agg (Bd.cs E), .int .i64 u] w fun e w' => e = .returned (.agg #[.int .i64 a, .int .i64 b, .int .i64 c, .int .i64 d]) ∧ Below w.heap.size w w' := by
  obtain ⟨V, hV⟩ : ∃ V, w.alloc (.cells (Bd.cs E) boT) = V := ⟨_, rfl⟩
  have R0 : V.heap[w.heap.size]? = some (.cells (Bd.cs E) boT) := by rw [← hV]; exact (MapKept.heap_alloc w _).1
  have BV : Below w.heap.size w V := by rw [← hV]; exact (Below.refl _ _).alloc (Nat.le_refl _) _
  have z1 : ∀ W, (zeroValue noT).run Try.prog W = .ok (.agg #[.int .i64 0, .int .i64 0, .int .i64 0, .int .i64 0]) W := fun W => by kernel_rfl
  by_cases hu : 1 ≤ u ∧ u ≤ 16
  · obtain ⟨k, rfl⟩ : ∃ k : Nat, u = k := ⟨u.toNat, by omega⟩
    have u1 : (1 : Int) ≤ (k : Int) := hu.1
    have u2 : (k : Int) ≤ 16 := hu.2
    unfold Bd.note at h
    rw [if_pos hu, Int.toNat_natCast] at h
    have c0 : V.cell? ⟨w.heap.size, k * 3, none⟩ = _ := (row_cells R0 _).trans (Bd.cs_0 E k (by omega))
    have c1 : V.cell? ⟨w.heap.size, k * 3 + 1, none⟩ = _ := (row_cells R0 _).trans (Bd.cs_1 E k (by omega))
    have c2 : V.cell? ⟨w.heap.size, k * 3 + 2, none⟩ = _ := (row_cells R0 _).trans (Bd.cs_2 E k (by omega))
    have cA : ∀ o j, (V.alloc o).cell? ⟨w.heap.size, j, none⟩ = V.cell? ⟨w.heap.size, j, none⟩ := fun o j => World.cell?_alloc_lt V o ⟨w.heap.size, j, none⟩ (row_lt R0)
    generalize E k = p at c0 c1 c2 h
    obtain ⟨p0, p1, p2⟩ := p
    simp only [Prod.mk.injEq] at h c0 c1 c2
    obtain ⟨rfl, rfl, rfl, rfl⟩ := h
    have q1 : (k : Int) < 17 := by omega
    have q0 : (0 : Int) ≤ (k : Int) := by omega
    have RN : ∀ m o, ((V.alloc (.cells o noT)).drewN m).heap[V.heap.size]? = some (.cells o noT) := fun m o => (MapKept.heap_alloc V _).1
    have sN := fun m o => (rows1 (RN m o)).set0
    have tN := fun m o => (rows1 (RN m o)).set1
    have fN := fun m o => (rows1 (RN m o)).frozen0
    have gN := fun m o => (rows1 (RN m o)).frozen1
    have kN := fun m o => (rows1 (RN m o)).cell0
    have lN := fun m o => (rows1 (RN m o)).cell1
    have BS := Lib.hid (fun (m : Nat) (o : Array Value) ds => setRow_below (t := noT) (cs := ds) (below_drewN (BV.alloc BV.size (.cells o noT)) m) BV.size)
    clear RN
    clear R0 BV
    go_enter Try.func14, Try.ntmps14
    go_wp2_with fail
    refine region_tail 14 (by kernel_rfl) (by kernel_rfl) ?_
    simp only [List.take_succ_cons, List.take_zero, List.drop_succ_cons, List.drop_zero]
    repeat (go_big_quiet_step (fail))
    with_reducible refine wpQuiet_nil ?_
    intro m
    go_wp2
    refine bodyPost_ret (v := .agg #[.int .i64 k, .int .i64 p0, .int .i64 p1, .int .i64 p2]) ?_ rfl ⟨rfl, BS.out _ _ _⟩
    simp [results, Try.results14, go_sem, lN]
  · have hcase : u < 1 ∨ (1 ≤ u ∧ 16 < u) := by omega
    unfold Bd.note at h
    rw [if_neg hu] at h
    simp only [Prod.mk.injEq] at h
    obtain ⟨rfl, rfl, rfl, rfl⟩ := h
    have BS := Lib.hid (fun o => BV.alloc BV.size o)
    clear R0 BV
    rcases hcase with h | ⟨h0, h⟩
    all_goals
      go_enter Try.func14, Try.ntmps14
      go_wp2_with fail
      refine bodyPost_ret (v := .agg #[.int .i64 0, .int .i64 0, .int .i64 0, .int .i64 0]) ?_ rfl ⟨rfl, BS.out _⟩
      simp [results, Try.results14, go_sem]

theorem rnewer_any (a b c d a' b' c' d' : Int) (w : World) :
    Calls Try.prog 16 #[.agg #[.int .i64 a, .int .i64 b, .int .i64 c, .int .i64 d], .agg #[.int .i64 a', .int .i64 b', .int .i64 c', .int .i64 d']] w fun e w' => e = .returned (.bool (decide (a = a' ∧ b < b'))) ∧ Below w.heap.size w w' := by
  by_cases h : a = a'
  · subst h
    go_enter Try.func16, Try.ntmps16
    go_wp2
    all_goals (go_ret; exact ⟨ret_bool (by simp), ((Below.refl _ _).alloc (Nat.le_refl _) _).alloc (by simp) _⟩)
  · have hb : (a == a') = false := by simpa using h
    go_enter Try.func16, Try.ntmps16
    go_wp2
    all_goals (go_ret; exact ⟨ret_bool (by simp [h]), ((Below.refl _ _).alloc (Nat.le_refl _) _).alloc (by simp) _⟩)

theorem rput_to {w : World} {E E' : Bd} {u : Int} {r : Bool} {A : Option Addr} {n cap : Nat} {l : List Int} (hE : Bd.put E u l = E') (hr : Bd.ok E u l = r) (hn : l.length = n) (hN : Nums .i64 w A l) (hlen : n ≤ 9223372036854775807) (hlow : ∀ i, -9223372036854775808 ≤ (E i).1) :
    Calls Try.prog 12 #[.agg (Bd.cs E), .int .i64 u, .slice A n cap] w fun e w' => e = .returned (.tuple #[.agg (Bd.cs E'), .bool r]) ∧ Below w.heap.size w w' := by
  subst hE; subst hr
  exact rput_any w E u A n cap l hn hN hlen hlow
theorem rfold_to {w : World} {A : Option Addr} {n cap : Nat} {l : List Int} {a b : Int} (h : Bd.fold l = (a, b)) (hn : l.length = n) (hN : Nums .i64 w A l) (hlen : n ≤ 9223372036854775807) :
    Calls Try.prog 10 #[.slice A n cap] w fun e w' => e = .returned (.tuple #[.int .i64 a, .int .i64 b]) ∧ w = w' := by
  have := rfold_any w A n cap l hn hN hlen
  rw [h] at this
  exact this

theorem open_note {H : Type} {enc : TypeId × Value → H} {W : World} {base : Nat} {v : Value} {d : DataW H} {ps : List MemPlace}
    (hval : Value.okWide Try.prog W .any base noT v) (h : DataW.Trod enc Try.prog W 0 (fun _ => true) true noT v d ps) :
    ∃ a b c d : Int, v = .agg #[.int .i64 a, .int .i64 b, .int .i64 c, .int .i64 d] := by
  obtain ⟨C, rfl, hsz⟩ := okWide_struct Try.underlying28 hval
  have hc : Try.prog.cellsOf noT = 4 := by kernel_rfl
  have hi1 : Try.prog.cellsOf 3 = 1 := by kernel_rfl
  rw [hc] at hsz
  obtain ⟨L⟩ := C
  match L, hsz with
  | [c0, c1, c2, c3], _ =>
    obtain ⟨fuel, hf⟩ := h
    obtain ⟨ys, n, _, _, _, hyl, hfs⟩ := DataW.trod_struct Try.underlying28 hf
    have hyl' : ys.length = 4 := hyl
    have f0 := hfs 0 _ rfl
    have f1 := hfs 1 _ rfl
    have f2 := hfs 2 _ rfl
    have f3 := hfs 3 _ rfl
    rw [List.getElem?_eq_getElem (by omega)] at f0 f1 f2 f3
    obtain ⟨a, e0, -, -⟩ := DataW.trod_int Try.underlying3 f0
    obtain ⟨b, e1, -, -⟩ := DataW.trod_int Try.underlying3 f1
    obtain ⟨c, e2, -, -⟩ := DataW.trod_int Try.underlying3 f2
    obtain ⟨d, e3, -, -⟩ := DataW.trod_int Try.underlying3 f3
    change List.take (Try.prog.cellsOf 3) [c0, c1, c2, c3] = [.int .i64 a] at e0
    change List.take (Try.prog.cellsOf 3) [c1, c2, c3] = [.int .i64 b] at e1
    change List.take (Try.prog.cellsOf 3) [c2, c3] = [.int .i64 c] at e2
    change List.take (Try.prog.cellsOf 3) [c3] = [.int .i64 d] at e3
    rw [hi1] at e0 e1 e2 e3
    simp only [List.take_succ_cons, List.take_zero, List.cons.injEq, and_true] at e0 e1 e2 e3
    subst e0; subst e1; subst e2; subst e3
    exact ⟨a, b, c, d, rfl⟩
end Go.Proofs.Ytjmpafpampmncaa
