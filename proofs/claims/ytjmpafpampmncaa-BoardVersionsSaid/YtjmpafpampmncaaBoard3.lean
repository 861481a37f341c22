/- What Note and Newer of package board come to, and the small case of layer 19. -/
import Derived.Test.YtjmpafpampmncaaBoard2
import Derived.BigQuiet
import Derived.Test.YtjmpafpampmncaaTail2
namespace Go.Proofs.Ytjmpafpampmncaa
open Go.ChangeShapes Go.WideShapes Go.ChangeAt Go.RowKit

theorem wpl_loadw {ops : Array Oper} {rest : List Oper} {o : Oper} {a : Act} {w : World} {Q : Exit → Act → World → Prop} (hgd : Region.wanted o (yielded ops a.tmps) = true) (x : Operand) (ho : o.op = .load boT x) (g : Nat) (E : Bd) (hx : a.eval x = .pointer (some ⟨g, 0, none⟩))
    (hw : w.heap[g]? = some (.cells (Bd.cs E) boT)) (h : wpList Try.prog ops Q rest (a.put o.dst (.agg (Bd.cs E))) w) : wpList Try.prog ops Q (o :: rest) a w :=
  BigFrame.wpList_want hgd fun _ hK => wp_load_mid boT x ho g 0 hx (Bd.row E) _ (fun j v hv => by rw [Nat.zero_add, cell_of_row _ _ _ _ _ _ hw, Bd.cs, List.getElem?_toArray]; exact hv) Try.underlying25 rfl (by rw [info_board, Bd.row_len]) (hK _ _ h)
theorem wpQuiet_board {α : Type} {f : α → World} {ops : Array Oper} {rest : List Oper} {o : Oper} {a : Act} {Q : Act → Prop} (hgd : Region.wanted o (yielded ops a.tmps) = true) (x : Operand) (ho : o.op = .load boT x) (g : Nat) (E : Bd) (hx : a.eval x = .pointer (some ⟨g, 0, none⟩))
    (hw : ∀ n, (f n).heap[g]? = some (.cells (Bd.cs E) boT)) (h : wpQuiet Try.prog ops (fun w' => ∃ n, w' = f n) Q rest (a.put o.dst (.agg (Bd.cs E)))) : wpQuiet Try.prog ops (fun w' => ∃ n, w' = f n) Q (o :: rest) a :=
  BigFrame.wpQuiet_want hgd fun _ hK => ⟨.agg (Bd.cs E), fun w' ⟨n, hn⟩ => by
    subst hn
    have hl := run_loadVar_mid (P := Try.prog) (f n) g 0 boT (Bd.row E) _ (fun j v hv => by rw [Nat.zero_add, cell_of_row _ _ _ _ _ _ (hw n), Bd.cs, List.getElem?_toArray]; exact hv) Try.underlying25 rfl (by rw [info_board, Bd.row_len])
    unfold Oper.quietAt execOp
    simp only [ho, hx, Instr.loadAt, Instr.sureAddr, Sem.run_bind, Sem.run_pure, Result.andThen_ok, hl]
    exact ⟨rfl, rfl⟩, hK _ h⟩
/-- The worlds in which three boards lie as they were laid. -/
structure Three (w : World) (g3 g5 g7 : Nat) (E1 E2 : Bd) where
  val : World
  r3 : val.heap[g3]? = some (.cells (Bd.cs E1) boT)
  r5 : val.heap[g5]? = some (.cells (Bd.cs E1) boT)
  r7 : val.heap[g7]? = some (.cells (Bd.cs E2) boT)
  low : Below w.heap.size w val
theorem three_left {g : FuncId} {args : Array Value} {w : World} {g3 g5 g7 : Nat} {E1 E2 : Bd} {u : Three w g3 g5 g7 E1 E2} {v : Value}
    (h : Calls Try.prog g args u.val fun e w' => e = .returned v ∧ Below u.val.heap.size u.val w') : Calls Try.prog g args u.val fun e w'' => e = .returned v ∧ ∃ n : Three w g3 g5 g7 E1 E2, w'' = n.val :=
  h.mono fun _ w' ⟨he, hb⟩ => ⟨he, ⟨w', row_kept u.r3 hb (row_lt u.r3), row_kept u.r5 hb (row_lt u.r5), row_kept u.r7 hb (row_lt u.r7), u.low.trans (hb.mono u.low.size)⟩, rfl⟩
theorem store_new (W : World) (E : Bd) : (storeCells ⟨W.heap.size, 0, none⟩ (Bd.cs E).toList 0).run Try.prog (W.alloc (.cells (Bd.cs zeros) boT)) = .ok () (W.alloc (.cells (Bd.cs E) boT)) :=
  run_storeCells_new W boT (Bd.cs zeros) (Bd.cs E) (by rw [info_board, Bd.cs_size]) (by rw [Bd.cs_size, Bd.cs_size]) (cs_one E)

set_option maxHeartbeats 1000000 in
theorem note_to {E : Bd} {u a b c d : Int} (h : Bd.note E u = (a, b, c, d)) (w : World) :
    Calls Try.prog 13 #[.agg (Bd.cs E), .int .i64 u] w fun e w' => e = .returned (.agg #[.int .i64 a, .int .i64 b, .int .i64 c, .int .i64 d]) ∧ Below w.heap.size w w' := by
  obtain ⟨V, hV⟩ : ∃ V, w.alloc (.cells (Bd.cs E) boT) = V := ⟨_, rfl⟩
  have R0 : V.heap[w.heap.size]? = some (.cells (Bd.cs E) boT) := by rw [← hV]; exact (MapKept.heap_alloc w _).1
  have BV : Below w.heap.size w V := by rw [← hV]; exact (Below.refl _ _).alloc (Nat.le_refl _) _
  have z1 : ∀ W, (zeroValue noT).run Try.prog W = .ok (.agg #[.int .i64 0, .int .i64 0, .int .i64 0, .int .i64 0]) W := fun W => by kernel_rfl
  by_cases hu : 1 ≤ u ∧ u ≤ 16
  · obtain ⟨k, rfl⟩ : ∃ k : Nat, u = k := ⟨u.toNat, by omega⟩
    have HU := Lib.hid (show decide (1 ≤ (k : Int) ∧ (k : Int) ≤ 16) = true from decide_eq_true hu)
    unfold Bd.note at h
    rw [if_pos hu, Int.toNat_natCast] at h
    have c0 : V.cell? ⟨w.heap.size, k * 3, none⟩ = _ := (row_cells R0 _).trans (Bd.cs_0 E k (by omega))
    have c1 : V.cell? ⟨w.heap.size, k * 3 + 1, none⟩ = _ := (row_cells R0 _).trans (Bd.cs_1 E k (by omega))
    have c2 : V.cell? ⟨w.heap.size, k * 3 + 2, none⟩ = _ := (row_cells R0 _).trans (Bd.cs_2 E k (by omega))
    have cA : ∀ o j, (V.alloc o).cell? ⟨w.heap.size, j, none⟩ = V.cell? ⟨w.heap.size, j, none⟩ := fun o j => World.cell?_alloc_lt V o ⟨w.heap.size, j, none⟩ (row_lt R0)
    generalize E k = p at c0 c1 c2 h
    obtain ⟨p0, p1, p2⟩ := p
    simp only [Prod.mk.injEq] at h c0 c1 c2
    obtain ⟨rfl, rfl, rfl, rfl⟩ := h
    have q1 : (k : Int) < 17 := by omega
    have q0 : (0 : Int) ≤ (k : Int) := by omega
    have BS := Lib.hid (fun o o' => (BV.alloc BV.size o).alloc (BV.alloc BV.size o).size o')
    clear R0 BV
    go_enter Try.func13, Try.ntmps13
    go_wp2_with (first
      | (go_at_call 17; refine (user_to HU.out _).mono ?_; rintro e w' ⟨rfl, rfl⟩)
      )
    refine bodyPost_ret (v := .agg #[.int .i64 k, .int .i64 p0, .int .i64 p1, .int .i64 p2]) ?_ rfl ⟨rfl, BS.out _ _⟩
    simp [results, Try.results13, go_sem]
  · have HU := Lib.hid (show decide (1 ≤ u ∧ u ≤ 16) = false from decide_eq_false hu)
    unfold Bd.note at h
    rw [if_neg hu] at h
    simp only [Prod.mk.injEq] at h
    obtain ⟨rfl, rfl, rfl, rfl⟩ := h
    have BS := Lib.hid (fun o => BV.alloc BV.size o)
    clear R0 BV
    go_enter Try.func13, Try.ntmps13
    go_wp2_with (first
      | (go_at_call 17; refine (user_to HU.out _).mono ?_; rintro e w' ⟨rfl, rfl⟩)
      )
    refine bodyPost_ret (v := .agg #[.int .i64 0, .int .i64 0, .int .i64 0, .int .i64 0]) ?_ rfl ⟨rfl, BS.out _⟩
    simp [results, Try.results13, go_sem]

theorem newer_any (a b c d a' b' c' d' : Int) (w : World) :
    Calls Try.prog 15 #[.agg #[.int .i64 a, .int .i64 b, .int .i64 c, .int .i64 d], .agg #[.int .i64 a', .int .i64 b', .int .i64 c', .int .i64 d']] w fun e w' => e = .returned (.bool (decide (a = a' ∧ b < b'))) ∧ Below w.heap.size w w' := by
  by_cases h : a = a'
  · subst h
    go_enter Try.func15, Try.ntmps15
    go_wp2
    all_goals (go_ret; exact ⟨ret_bool (by simp), ((Below.refl _ _).alloc (Nat.le_refl _) _).alloc (by simp) _⟩)
  · have hb : (a == a') = false := by simpa using h
    go_enter Try.func15, Try.ntmps15
    go_wp2
    all_goals (go_ret; exact ⟨ret_bool (by simp [h]), ((Below.refl _ _).alloc (Nat.le_refl _) _).alloc (by simp) _⟩)

theorem put_to {w : World} {E E' : Bd} {u : Int} {r : Bool} {A : Option Addr} {n cap : Nat} {l : List Int} (hE : Bd.put E u l = E') (hr : Bd.ok E u l = r) (hn : l.length = n) (hN : Nums .i64 w A l) (hlen : n ≤ 9223372036854775807) (hlow : ∀ i, -9223372036854775808 ≤ (E i).1) :
    Calls Try.prog 11 #[.agg (Bd.cs E), .int .i64 u, .slice A n cap] w fun e w' => e = .returned (.tuple #[.agg (Bd.cs E'), .bool r]) ∧ Below w.heap.size w w' := by
  subst hE; subst hr
  exact put_any w E u A n cap l hn hN hlen hlow
theorem fold_to {w : World} {A : Option Addr} {n cap : Nat} {l : List Int} {a b : Int} (h : Bd.fold l = (a, b)) (hn : l.length = n) (hN : Nums .i64 w A l) (hlen : n ≤ 9223372036854775807) :
    Calls Try.prog 9 #[.slice A n cap] w fun e w' => e = .returned (.tuple #[.int .i64 a, .int .i64 b]) ∧ w = w' := by
  have := fold_any w A n cap l hn hN hlen
  rw [h] at this
  exact this
theorem upd_low {E : Bd} {u : Nat} {p : Int × Int × Int} (h : ∀ i, -9223372036854775808 ≤ (E i).1) (hp : -9223372036854775808 ≤ p.1) : ∀ i, -9223372036854775808 ≤ (Bd.upd E u p i).1 := fun i => by
  unfold Bd.upd
  split
  · exact hp
  · exact h i

set_option maxRecDepth 10000 in
set_option maxHeartbeats 4000000 in
theorem small_any (w : World) : Calls Try.prog 8 #[] w fun e w' => e = .returned (.bool true) ∧ Below w.heap.size w w' := by
  have z0 := zero_board
  have z1 : ∀ W, (zeroValue noT).run Try.prog W = .ok (.agg #[.int .i64 0, .int .i64 0, .int .i64 0, .int .i64 0]) W := fun W => by kernel_rfl
  have hst := store_new
  have hsz := Bd.cs_size
  obtain ⟨E1, hE1⟩ : ∃ E1, E1 = Bd.upd zeros 2 (1, 3, 2) := ⟨_, rfl⟩
  obtain ⟨E2, hE2⟩ : ∃ E2, E2 = Bd.upd E1 2 (2, 0, 0) := ⟨_, rfl⟩
  have lz : ∀ i, -9223372036854775808 ≤ (zeros i).1 := fun i => by unfold zeros; decide
  have l1 : ∀ i, -9223372036854775808 ≤ (E1 i).1 := by rw [hE1]; exact upd_low lz (by decide)
  have p1 := Lib.hid (show Bd.put zeros 2 [1, 3] = E1 by rw [hE1]; rfl)
  have o1 := Lib.hid (show Bd.ok zeros 2 [1, 3] = true by decide)
  have f1 : E1 2 = (1, 3, 2) := by rw [hE1]; rfl
  have o2' : Bd.ok E1 2 [3, 1] = false := by rw [hE1]; decide
  have p2 := Lib.hid (show Bd.put E1 2 [3, 1] = E1 by unfold Bd.put; rw [o2']; rfl)
  have o2 := Lib.hid o2'
  have o3' : Bd.ok E1 2 [] = true := by rw [hE1]; decide
  have p3 := Lib.hid (show Bd.put E1 2 [] = E2 by unfold Bd.put; rw [o3', hE2, show ((2 : Int).toNat) = 2 from rfl, f1]; rfl)
  have o3 := Lib.hid o3'
  have o4' : Bd.ok E1 17 [1] = false := by unfold Bd.ok; exact decide_eq_false (by omega)
  have p4 := Lib.hid (show Bd.put E1 17 [1] = E1 by unfold Bd.put; rw [o4']; rfl)
  have o4 := Lib.hid o4'
  have n1 := Lib.hid (show Bd.note E1 2 = (2, 1, 3, 2) by unfold Bd.note; rw [show ((2 : Int).toNat) = 2 from rfl, f1]; rfl)
  have n2 := Lib.hid (show Bd.note E2 2 = (2, 2, 0, 0) by rw [hE2]; rfl)
  have n3 := Lib.hid (show Bd.note E1 0 = (0, 0, 0, 0) by rfl)
  have n4 := Lib.hid (show Bd.note E1 1 = (1, 0, 0, 0) by rw [hE1]; rfl)
  have fo := Lib.hid (show Bd.fold [1, 3, 0, 7] = (3, 2) by decide)
  have heq := fun W => eql_refl W E1
  have LZ := Lib.hid lz
  have L1 := Lib.hid l1
  clear hE1 hE2 lz l1 f1 o2' o3' o4'
  go_enter Try.func8, Try.ntmps8
  go_wp2_with fail
  refine (fold_to fo.out rfl (Nums.new _ [1, 3, 0, 7] _ _ _ rfl rfl) (by decide)).mono ?_
  rintro e w' ⟨rfl, rfl⟩
  go_wp2_with fail
  refine (put_to p1.out o1.out rfl (Nums.new _ [1, 3] _ _ _ (by simp) rfl) (by decide) LZ.out).mono ?_
  rintro e w2 ⟨rfl, hb⟩
  have B2 := (((Below.refl w.heap.size w).alloc (Nat.le_refl _) _).alloc (by simp) _).trans (hb.mono (by simp <;> omega))
  have R3 : (w2.alloc (.cells (Bd.cs E1) boT)).heap[w2.heap.size]? = some (.cells (Bd.cs E1) boT) := (MapKept.heap_alloc w2 _).1
  have B3 := B2.alloc B2.size (.cells (Bd.cs E1) boT)
  clear hb B2
  go_wp2_with ((with_reducible refine wpl_loadw ?_ (.tmp 3) ?_ w2.heap.size E1 ?_ R3 ?_); (rfl); (rfl); (rfl))
  refine (put_to p2.out o2.out rfl (Nums.new _ [3, 1] _ _ _ (by simp) rfl) (by decide) L1.out).mono ?_
  rintro e w3 ⟨rfl, hb⟩
  have hb := Below.trans (((Below.refl (w2.alloc (.cells (Bd.cs E1) boT)).heap.size (w2.alloc (.cells (Bd.cs E1) boT))).alloc (Nat.le_refl _) _)) (hb.mono (by simp))
  have R3 := row_kept R3 hb (row_lt R3)
  have B3 := B3.trans (hb.mono B3.size)
  have hb := (Below.refl w3.heap.size w3).alloc (Nat.le_refl _) (.cells (Bd.cs E1) boT)
  have R3 := row_kept R3 hb (row_lt R3)
  have R5 : (w3.alloc (.cells (Bd.cs E1) boT)).heap[w3.heap.size]? = some (.cells (Bd.cs E1) boT) := (MapKept.heap_alloc w3 _).1
  have B3 := B3.trans (hb.mono B3.size)
  clear hb
  go_wp2_with ((with_reducible refine wpl_loadw ?_ (.tmp 3) ?_ w2.heap.size E1 ?_ R3 ?_); (rfl); (rfl); (rfl))
  refine (put_to p3.out o3.out rfl Nums.nil (by decide) L1.out).mono ?_
  rintro e w4 ⟨rfl, hb⟩
  have R3 := row_kept R3 hb (row_lt R3)
  have R5 := row_kept R5 hb (row_lt R5)
  have B3 := B3.trans (hb.mono B3.size)
  have hb := (Below.refl w4.heap.size w4).alloc (Nat.le_refl _) (.cells (Bd.cs E2) boT)
  have R3 := row_kept R3 hb (row_lt R3)
  have R5 := row_kept R5 hb (row_lt R5)
  have R7 : (w4.alloc (.cells (Bd.cs E2) boT)).heap[w4.heap.size]? = some (.cells (Bd.cs E2) boT) := (MapKept.heap_alloc w4 _).1
  have B3 := B3.trans (hb.mono B3.size)
  clear hb
  go_wp2_with ((with_reducible refine wpl_loadw ?_ (.tmp 3) ?_ w2.heap.size E1 ?_ R3 ?_); (rfl); (rfl); (rfl))
  refine (put_to p4.out o4.out rfl (Nums.new _ [1] _ _ _ (by simp) rfl) (by decide) L1.out).mono ?_
  rintro e w5 ⟨rfl, hb⟩
  have hb := Below.trans (((Below.refl (w4.alloc (.cells (Bd.cs E2) boT)).heap.size (w4.alloc (.cells (Bd.cs E2) boT))).alloc (Nat.le_refl _) _)) (hb.mono (by simp))
  have hb := hb.trans (((Below.refl w5.heap.size w5).alloc (Nat.le_refl _) (.cells (Bd.cs E1) boT)).mono hb.size)
  have R3 := row_kept R3 hb (row_lt R3)
  have R5 := row_kept R5 hb (row_lt R5)
  have R7 := row_kept R7 hb (row_lt R7)
  have B3 := B3.trans (hb.mono B3.size)
  clear hb
  go_wp2_with fail
  have u0 : Three w w2.heap.size w3.heap.size w4.heap.size E1 E2 := ⟨(w5.alloc (.cells (Bd.cs E1) boT)).drew, R3, R5, R7, below_drewN B3 1⟩
  have hne : Nonempty (Three w w2.heap.size w3.heap.size w4.heap.size E1 E2) := ⟨u0⟩
  refine region_class (fun u : Three w w2.heap.size w3.heap.size w4.heap.size E1 E2 => u.val) ⟨(w5.alloc (.cells (Bd.cs E1) boT)).drew, R3, R5, R7, below_drewN B3 1⟩ rfl (by kernel_rfl) (by kernel_rfl) ?_
  clear R3 R5 R7 B3 u0
  simp only [List.append_eq, List.cons_append, List.nil_append]
  repeat (first
    | ((with_reducible refine wpQuiet_board ?_ (.tmp 3) ?_ w2.heap.size E1 ?_ (fun u => u.r3) ?_); (rfl); (rfl); (rfl); (conv => arg 6; simp only [Act.put, List.setIfInBounds_toArray, List.set_cons_succ, List.set_cons_zero]))
    | ((with_reducible refine wpQuiet_board ?_ (.tmp 5) ?_ w3.heap.size E1 ?_ (fun u => u.r5) ?_); (rfl); (rfl); (rfl); (conv => arg 6; simp only [Act.put, List.setIfInBounds_toArray, List.set_cons_succ, List.set_cons_zero]))
    | ((with_reducible refine wpQuiet_board ?_ (.tmp 7) ?_ w4.heap.size E2 ?_ (fun u => u.r7) ?_); (rfl); (rfl); (rfl); (conv => arg 6; simp only [Act.put, List.setIfInBounds_toArray, List.set_cons_succ, List.set_cons_zero]))
    | go_big_quiet_step ((first
        | (go_at_call 13; first | (with_reducible exact three_left (note_to n1.out _)) | (with_reducible exact three_left (note_to n2.out _)) | (with_reducible exact three_left (note_to n3.out _)) | (with_reducible exact three_left (note_to n4.out _)))
        | (go_at_call 15; exact three_left (newer_any _ _ _ _ _ _ _ _ _))
        )))
  with_reducible refine wpQuiet_nil ?_
  rintro _ ⟨u, rfl⟩
  go_wp2
  go_ret
  exact ⟨rfl, u.low⟩
end Go.Proofs.Ytjmpafpampmncaa
