/- The document's own packets: parts, get, with. -/
import Derived.Test.YtnfdfnkhjlkdhaaWire7
namespace Go.Proofs.Ytnfdfnkhjlkdhaa
open Go.ChangeShapes Go.WideShapes Go.ChangeAt Go.RowKit
abbrev rpT : TypeId := 52
theorem info_rp : (Try.prog.info? rpT).map (·.size) = some 4 := by kernel_rfl
abbrev rpZ : List Value := [.int .i64 0, .int .i64 0, .int .i64 0, .int .i64 0]
theorem zero_rp (W : World) : (zeroValue rpT).run Try.prog W = .ok (.agg rpZ.toArray) W := by kernel_rfl
/-- The four numbers of a part, as the document's own has them. -/
def Pt5.rc (x : Pt5) : List Value := [.int .i64 ((x.j : Int) - 1), .int .i64 (if x.j ≤ 11 then x.sz else if x.j = 12 then 16 else 8), .int .i64 x.lo, .int .i64 x.hi]
/-- The slice of parts that 'parts' hands back. -/
def RPtsAt (w : World) (A : Option Addr) (l : List Pt5) : Prop := l = [] ∨ ∃ g t, A = some ⟨g, 0, none⟩ ∧ w.heap[g]? = some (.cells (l.flatMap Pt5.rc).toArray t)
theorem rid_any (w : World) (a b : Int) : Calls Try.prog 52 #[.int .i64 a, .int .i64 b] w fun e w' => e = .returned (.agg #[.int .i64 a, .int .i64 4, .int .i64 b, .int .i64 1073741824]) ∧ Below w.heap.size w w' := by
  have R := row_new (W := w) (cs := rpZ.toArray) (t := rpT) (m := (0, 0))
  have B : Below w.heap.size w (w.alloc (.cells rpZ.toArray rpT)) := (Below.refl _ _).alloc (Nat.le_refl _) _
  go_enter Try.func52, Try.ntmps52
  go_wp2_with (first
    | (refine wpl_arr_store info_rp rfl (.tmp 4) (.tmp 7) rfl w.heap.size [.int .i64 a, .int .i64 4, .int .i64 b, .int .i64 1073741824] rpZ rfl rfl (by simp [Value.oneCell']) rfl rfl R ?_))
  exact bodyPost_ret (row_results Try.underlying52 rfl info_rp Try.results52 rfl rfl (row_written R)) rfl ⟨rfl, setRow_below B (Nat.le_refl _)⟩
theorem rsm_any (w : World) (a b c : Int) : Calls Try.prog 53 #[.int .i64 a, .int .i64 b, .int .i64 c] w fun e w' => e = .returned (.agg #[.int .i64 a, .int .i64 1, .int .i64 b, .int .i64 c]) ∧ Below w.heap.size w w' := by
  have R := row_new (W := w) (cs := rpZ.toArray) (t := rpT) (m := (0, 0))
  have B : Below w.heap.size w (w.alloc (.cells rpZ.toArray rpT)) := (Below.refl _ _).alloc (Nat.le_refl _) _
  go_enter Try.func53, Try.ntmps53
  go_wp2_with (first
    | (refine wpl_arr_store info_rp rfl (.tmp 6) (.tmp 10) rfl w.heap.size [.int .i64 a, .int .i64 1, .int .i64 b, .int .i64 c] rpZ rfl rfl (by simp [Value.oneCell']) rfl rfl R ?_))
  exact bodyPost_ret (row_results Try.underlying52 rfl info_rp Try.results53 rfl rfl (row_written R)) rfl ⟨rfl, setRow_below B (Nat.le_refl _)⟩
theorem wpQuiet_rp {α : Type} {f : α → World} {ops : Array Oper} {rest : List Oper} {o : Oper} {a : Act} {Q : Act → Prop} (hgd : Region.wanted o (yielded ops a.tmps) = true) (x : Operand) (ho : o.op = .load rpT x) (g : Nat) (L : List Value) (hL : L.length = 4) (hx : a.eval x = .pointer (some ⟨g, 0, none⟩))
    (hw : ∀ m, (f m).heap[g]? = some (.cells L.toArray rpT)) (h : wpQuiet Try.prog ops (fun w' => ∃ m, w' = f m) Q rest (a.put o.dst (.agg L.toArray))) : wpQuiet Try.prog ops (fun w' => ∃ m, w' = f m) Q (o :: rest) a :=
  BigFrame.wpQuiet_want hgd fun _ hK => ⟨.agg L.toArray, fun w' ⟨m, hm⟩ => by
    subst hm
    have hl := run_loadVar_mid (P := Try.prog) (f m) g 0 rpT L _ (range_row (hw m)) Try.underlying52 rfl (by rw [info_rp, hL])
    unfold Oper.quietAt execOp
    simp only [ho, hx, Instr.loadAt, Instr.sureAddr, Sem.run_bind, Sem.run_pure, Result.andThen_ok, hl]
    exact ⟨rfl, rfl⟩, hK _ h⟩
set_option maxRecDepth 100000 in
set_option maxHeartbeats 2000000 in
theorem rparts_any (k : Int) (w : World) : Calls Try.prog 22 #[.int .i64 k] w fun e w' => ∃ A, e = .returned (.slice A (held k).length (held k).length) ∧ RPtsAt w' A (held k) ∧ Below w.heap.size w w' := by
  have z := zero_rp
  have RK := row_new (W := w) (cs := (([.int .i64 11, .int .i64 16, .int .i64 0, .int .i64 0] : List Value)).toArray) (t := rpT) (m := (0, 0))
  have BV : Below w.heap.size w ((w.alloc (.cells (([.int .i64 11, .int .i64 16, .int .i64 0, .int .i64 0] : List Value)).toArray rpT)).alloc (.cells (([.int .i64 12, .int .i64 8, .int .i64 0, .int .i64 0] : List Value)).toArray rpT)) := ((Below.refl _ _).alloc (Nat.le_refl _) _).alloc (by simp) _
  have RK := row_kept RK ((Below.refl _ _).alloc (Nat.le_refl _) (.cells (([.int .i64 12, .int .i64 8, .int .i64 0, .int .i64 0] : List Value)).toArray rpT)) (row_lt RK)
  have RE : ((w.alloc (.cells (([.int .i64 11, .int .i64 16, .int .i64 0, .int .i64 0] : List Value)).toArray rpT)).alloc (.cells (([.int .i64 12, .int .i64 8, .int .i64 0, .int .i64 0] : List Value)).toArray rpT)).heap[w.heap.size + 1]? = some (.cells (([.int .i64 12, .int .i64 8, .int .i64 0, .int .i64 0] : List Value)).toArray rpT) := by
    have := row_new (W := w.alloc (.cells (([.int .i64 11, .int .i64 16, .int .i64 0, .int .i64 0] : List Value)).toArray rpT)) (cs := (([.int .i64 12, .int .i64 8, .int .i64 0, .int .i64 0] : List Value)).toArray) (t := rpT) (m := (0, 0))
    simpa using this
  rcases held_cases k with rfl | rfl | rfl | rfl | rfl | rfl | rfl | rfl | rfl | rfl | rfl | rfl | h
  case inr.inr.inr.inr.inr.inr.inr.inr.inr.inr.inr.inr =>
    rw [held_none h]
    obtain ⟨h1, h2, h3, h4, h5, h6, h7, h8, h9, h10, h11, h12⟩ := h
    have b1 : (k == 1) = false := beq_eq_false_iff_ne.2 h1
    have b2 : (k == 2) = false := beq_eq_false_iff_ne.2 h2
    have b3 : (k == 3) = false := beq_eq_false_iff_ne.2 h3
    have b4 : (k == 4) = false := beq_eq_false_iff_ne.2 h4
    have b5 : (k == 5) = false := beq_eq_false_iff_ne.2 h5
    have b6 : (k == 6) = false := beq_eq_false_iff_ne.2 h6
    have b7 : (k == 7) = false := beq_eq_false_iff_ne.2 h7
    have b8 : (k == 8) = false := beq_eq_false_iff_ne.2 h8
    have b9 : (k == 9) = false := beq_eq_false_iff_ne.2 h9
    have b10 : (k == 10) = false := beq_eq_false_iff_ne.2 h10
    have b11 : (k == 11) = false := beq_eq_false_iff_ne.2 h11
    have b12 : (k == 12) = false := beq_eq_false_iff_ne.2 h12
    clear h1 h2 h3 h4 h5 h6 h7 h8 h9 h10 h11 h12
    go_enter Try.func22, Try.ntmps22
    go_wp2
    go_ret
    exact ⟨none, rfl, Or.inl rfl, BV⟩
  · go_enter Try.func22, Try.ntmps22
    go_upto_region 5 with (fail)
    generalize (w.alloc (.cells ([.int .i64 11, .int .i64 16, .int .i64 0, .int .i64 0] : List Value).toArray rpT)).alloc (.cells ([.int .i64 12, .int .i64 8, .int .i64 0, .int .i64 0] : List Value).toArray rpT) = V at RK RE BV ⊢
    go_wp2_with (first
      | (go_at_call 52; refine (rid_any _ _ _).mono ?_; rintro e w' ⟨rfl, hb⟩; have BV := BV.trans (hb.mono BV.size); clear hb)
      | (go_at_call 53; refine (rsm_any _ _ _ _).mono ?_; rintro e w' ⟨rfl, hb⟩; have BV := BV.trans (hb.mono BV.size); clear hb))
    go_ret
    exact ⟨_, rfl, Or.inr ⟨_, _, rfl, row_new⟩, BV.alloc BV.size _⟩
  · go_enter Try.func22, Try.ntmps22
    go_upto_region 7 with (fail)
    generalize (w.alloc (.cells ([.int .i64 11, .int .i64 16, .int .i64 0, .int .i64 0] : List Value).toArray rpT)).alloc (.cells ([.int .i64 12, .int .i64 8, .int .i64 0, .int .i64 0] : List Value).toArray rpT) = V at RK RE BV ⊢
    have HK := Lib.hid (show ∀ u : Over V.heap.size V, u.val.heap[w.heap.size]? = some (.cells ([.int .i64 11, .int .i64 16, .int .i64 0, .int .i64 0] : List Value).toArray rpT) from fun u => row_kept RK u.below (row_lt RK))
    have HE := Lib.hid (show ∀ u : Over V.heap.size V, u.val.heap[w.heap.size + 1]? = some (.cells ([.int .i64 12, .int .i64 8, .int .i64 0, .int .i64 0] : List Value).toArray rpT) from fun u => row_kept RE u.below (row_lt RE))
    have HB := Lib.hid (show ∀ u : Over V.heap.size V, Below w.heap.size w u.val from fun u => BV.trans (u.below.mono BV.size))
    clear RK RE BV z
    refine region_tail_class (fun u : Over V.heap.size V => u.val) ⟨V.drew, below_drewN (Below.refl _ _) 1⟩ rfl 3 (by kernel_rfl) (by kernel_rfl) ?_
    simp only [List.take_succ_cons, List.take_zero, List.drop_succ_cons, List.drop_zero]
    repeat (first
      | ((with_reducible refine wpQuiet_rp ?_ (.tmp 3) ?_ w.heap.size [.int .i64 11, .int .i64 16, .int .i64 0, .int .i64 0] rfl ?_ (fun u => HK.out u) ?_); (rfl); (rfl); (rfl); (conv => arg 6; simp only [Act.put, List.setIfInBounds_toArray, List.set_cons_succ, List.set_cons_zero]))
      | ((with_reducible refine wpQuiet_rp ?_ (.tmp 4) ?_ (w.heap.size + 1) [.int .i64 12, .int .i64 8, .int .i64 0, .int .i64 0] rfl ?_ (fun u => HE.out u) ?_); (rfl); (rfl); (rfl); (conv => arg 6; simp only [Act.put, List.setIfInBounds_toArray, List.set_cons_succ, List.set_cons_zero]))
      | go_big_quiet_step ((first
        | (go_at_call 52; exact over_left (Nat.le_refl _) (rid_any _ _ _))
        | (go_at_call 53; exact over_left (Nat.le_refl _) (rsm_any _ _ _ _)))))
    with_reducible refine wpQuiet_nil ?_
    rintro _ ⟨u, rfl⟩
    have B2 := HB.out u
    generalize u.val = W at B2 ⊢
    go_wp2
    go_ret
    exact ⟨_, rfl, Or.inr ⟨_, _, rfl, row_new⟩, B2.alloc B2.size _⟩
  · go_enter Try.func22, Try.ntmps22
    go_upto_region 9 with (fail)
    generalize (w.alloc (.cells ([.int .i64 11, .int .i64 16, .int .i64 0, .int .i64 0] : List Value).toArray rpT)).alloc (.cells ([.int .i64 12, .int .i64 8, .int .i64 0, .int .i64 0] : List Value).toArray rpT) = V at RK RE BV ⊢
    have HK := Lib.hid (show ∀ u : Over V.heap.size V, u.val.heap[w.heap.size]? = some (.cells ([.int .i64 11, .int .i64 16, .int .i64 0, .int .i64 0] : List Value).toArray rpT) from fun u => row_kept RK u.below (row_lt RK))
    have HE := Lib.hid (show ∀ u : Over V.heap.size V, u.val.heap[w.heap.size + 1]? = some (.cells ([.int .i64 12, .int .i64 8, .int .i64 0, .int .i64 0] : List Value).toArray rpT) from fun u => row_kept RE u.below (row_lt RE))
    have HB := Lib.hid (show ∀ u : Over V.heap.size V, Below w.heap.size w u.val from fun u => BV.trans (u.below.mono BV.size))
    clear RK RE BV z
    refine region_tail_class (fun u : Over V.heap.size V => u.val) ⟨V.drew, below_drewN (Below.refl _ _) 1⟩ rfl 4 (by kernel_rfl) (by kernel_rfl) ?_
    simp only [List.take_succ_cons, List.take_zero, List.drop_succ_cons, List.drop_zero]
    repeat (first
      | ((with_reducible refine wpQuiet_rp ?_ (.tmp 3) ?_ w.heap.size [.int .i64 11, .int .i64 16, .int .i64 0, .int .i64 0] rfl ?_ (fun u => HK.out u) ?_); (rfl); (rfl); (rfl); (conv => arg 6; simp only [Act.put, List.setIfInBounds_toArray, List.set_cons_succ, List.set_cons_zero]))
      | ((with_reducible refine wpQuiet_rp ?_ (.tmp 4) ?_ (w.heap.size + 1) [.int .i64 12, .int .i64 8, .int .i64 0, .int .i64 0] rfl ?_ (fun u => HE.out u) ?_); (rfl); (rfl); (rfl); (conv => arg 6; simp only [Act.put, List.setIfInBounds_toArray, List.set_cons_succ, List.set_cons_zero]))
      | go_big_quiet_step ((first
        | (go_at_call 52; exact over_left (Nat.le_refl _) (rid_any _ _ _))
        | (go_at_call 53; exact over_left (Nat.le_refl _) (rsm_any _ _ _ _)))))
    with_reducible refine wpQuiet_nil ?_
    rintro _ ⟨u, rfl⟩
    have B2 := HB.out u
    generalize u.val = W at B2 ⊢
    go_wp2
    go_ret
    exact ⟨_, rfl, Or.inr ⟨_, _, rfl, row_new⟩, B2.alloc B2.size _⟩
  · go_enter Try.func22, Try.ntmps22
    go_upto_region 11 with (fail)
    generalize (w.alloc (.cells ([.int .i64 11, .int .i64 16, .int .i64 0, .int .i64 0] : List Value).toArray rpT)).alloc (.cells ([.int .i64 12, .int .i64 8, .int .i64 0, .int .i64 0] : List Value).toArray rpT) = V at RK RE BV ⊢
    have HK := Lib.hid (show ∀ u : Over V.heap.size V, u.val.heap[w.heap.size]? = some (.cells ([.int .i64 11, .int .i64 16, .int .i64 0, .int .i64 0] : List Value).toArray rpT) from fun u => row_kept RK u.below (row_lt RK))
    have HE := Lib.hid (show ∀ u : Over V.heap.size V, u.val.heap[w.heap.size + 1]? = some (.cells ([.int .i64 12, .int .i64 8, .int .i64 0, .int .i64 0] : List Value).toArray rpT) from fun u => row_kept RE u.below (row_lt RE))
    have HB := Lib.hid (show ∀ u : Over V.heap.size V, Below w.heap.size w u.val from fun u => BV.trans (u.below.mono BV.size))
    clear RK RE BV z
    refine region_tail_class (fun u : Over V.heap.size V => u.val) ⟨V.drew, below_drewN (Below.refl _ _) 1⟩ rfl 3 (by kernel_rfl) (by kernel_rfl) ?_
    simp only [List.take_succ_cons, List.take_zero, List.drop_succ_cons, List.drop_zero]
    repeat (first
      | ((with_reducible refine wpQuiet_rp ?_ (.tmp 3) ?_ w.heap.size [.int .i64 11, .int .i64 16, .int .i64 0, .int .i64 0] rfl ?_ (fun u => HK.out u) ?_); (rfl); (rfl); (rfl); (conv => arg 6; simp only [Act.put, List.setIfInBounds_toArray, List.set_cons_succ, List.set_cons_zero]))
      | ((with_reducible refine wpQuiet_rp ?_ (.tmp 4) ?_ (w.heap.size + 1) [.int .i64 12, .int .i64 8, .int .i64 0, .int .i64 0] rfl ?_ (fun u => HE.out u) ?_); (rfl); (rfl); (rfl); (conv => arg 6; simp only [Act.put, List.setIfInBounds_toArray, List.set_cons_succ, List.set_cons_zero]))
      | go_big_quiet_step ((first
        | (go_at_call 52; exact over_left (Nat.le_refl _) (rid_any _ _ _))
        | (go_at_call 53; exact over_left (Nat.le_refl _) (rsm_any _ _ _ _)))))
    with_reducible refine wpQuiet_nil ?_
    rintro _ ⟨u, rfl⟩
    have B2 := HB.out u
    generalize u.val = W at B2 ⊢
    go_wp2
    go_ret
    exact ⟨_, rfl, Or.inr ⟨_, _, rfl, row_new⟩, B2.alloc B2.size _⟩
  · go_enter Try.func22, Try.ntmps22
    go_upto_region 14 with (fail)
    generalize (w.alloc (.cells ([.int .i64 11, .int .i64 16, .int .i64 0, .int .i64 0] : List Value).toArray rpT)).alloc (.cells ([.int .i64 12, .int .i64 8, .int .i64 0, .int .i64 0] : List Value).toArray rpT) = V at RK RE BV ⊢
    have HK := Lib.hid (show ∀ u : Over V.heap.size V, u.val.heap[w.heap.size]? = some (.cells ([.int .i64 11, .int .i64 16, .int .i64 0, .int .i64 0] : List Value).toArray rpT) from fun u => row_kept RK u.below (row_lt RK))
    have HE := Lib.hid (show ∀ u : Over V.heap.size V, u.val.heap[w.heap.size + 1]? = some (.cells ([.int .i64 12, .int .i64 8, .int .i64 0, .int .i64 0] : List Value).toArray rpT) from fun u => row_kept RE u.below (row_lt RE))
    have HB := Lib.hid (show ∀ u : Over V.heap.size V, Below w.heap.size w u.val from fun u => BV.trans (u.below.mono BV.size))
    clear RK RE BV z
    refine region_tail_class (fun u : Over V.heap.size V => u.val) ⟨V.drew, below_drewN (Below.refl _ _) 1⟩ rfl 3 (by kernel_rfl) (by kernel_rfl) ?_
    simp only [List.take_succ_cons, List.take_zero, List.drop_succ_cons, List.drop_zero]
    repeat (first
      | ((with_reducible refine wpQuiet_rp ?_ (.tmp 3) ?_ w.heap.size [.int .i64 11, .int .i64 16, .int .i64 0, .int .i64 0] rfl ?_ (fun u => HK.out u) ?_); (rfl); (rfl); (rfl); (conv => arg 6; simp only [Act.put, List.setIfInBounds_toArray, List.set_cons_succ, List.set_cons_zero]))
      | ((with_reducible refine wpQuiet_rp ?_ (.tmp 4) ?_ (w.heap.size + 1) [.int .i64 12, .int .i64 8, .int .i64 0, .int .i64 0] rfl ?_ (fun u => HE.out u) ?_); (rfl); (rfl); (rfl); (conv => arg 6; simp only [Act.put, List.setIfInBounds_toArray, List.set_cons_succ, List.set_cons_zero]))
      | go_big_quiet_step ((first
        | (go_at_call 52; exact over_left (Nat.le_refl _) (rid_any _ _ _))
        | (go_at_call 53; exact over_left (Nat.le_refl _) (rsm_any _ _ _ _)))))
    with_reducible refine wpQuiet_nil ?_
    rintro _ ⟨u, rfl⟩
    have B2 := HB.out u
    generalize u.val = W at B2 ⊢
    go_wp2
    go_ret
    exact ⟨_, rfl, Or.inr ⟨_, _, rfl, row_new⟩, B2.alloc B2.size _⟩
  · go_enter Try.func22, Try.ntmps22
    go_upto_region 16 with (fail)
    generalize (w.alloc (.cells ([.int .i64 11, .int .i64 16, .int .i64 0, .int .i64 0] : List Value).toArray rpT)).alloc (.cells ([.int .i64 12, .int .i64 8, .int .i64 0, .int .i64 0] : List Value).toArray rpT) = V at RK RE BV ⊢
    have HK := Lib.hid (show ∀ u : Over V.heap.size V, u.val.heap[w.heap.size]? = some (.cells ([.int .i64 11, .int .i64 16, .int .i64 0, .int .i64 0] : List Value).toArray rpT) from fun u => row_kept RK u.below (row_lt RK))
    have HE := Lib.hid (show ∀ u : Over V.heap.size V, u.val.heap[w.heap.size + 1]? = some (.cells ([.int .i64 12, .int .i64 8, .int .i64 0, .int .i64 0] : List Value).toArray rpT) from fun u => row_kept RE u.below (row_lt RE))
    have HB := Lib.hid (show ∀ u : Over V.heap.size V, Below w.heap.size w u.val from fun u => BV.trans (u.below.mono BV.size))
    clear RK RE BV z
    refine region_tail_class (fun u : Over V.heap.size V => u.val) ⟨V.drew, below_drewN (Below.refl _ _) 1⟩ rfl 4 (by kernel_rfl) (by kernel_rfl) ?_
    simp only [List.take_succ_cons, List.take_zero, List.drop_succ_cons, List.drop_zero]
    repeat (first
      | ((with_reducible refine wpQuiet_rp ?_ (.tmp 3) ?_ w.heap.size [.int .i64 11, .int .i64 16, .int .i64 0, .int .i64 0] rfl ?_ (fun u => HK.out u) ?_); (rfl); (rfl); (rfl); (conv => arg 6; simp only [Act.put, List.setIfInBounds_toArray, List.set_cons_succ, List.set_cons_zero]))
      | ((with_reducible refine wpQuiet_rp ?_ (.tmp 4) ?_ (w.heap.size + 1) [.int .i64 12, .int .i64 8, .int .i64 0, .int .i64 0] rfl ?_ (fun u => HE.out u) ?_); (rfl); (rfl); (rfl); (conv => arg 6; simp only [Act.put, List.setIfInBounds_toArray, List.set_cons_succ, List.set_cons_zero]))
      | go_big_quiet_step ((first
        | (go_at_call 52; exact over_left (Nat.le_refl _) (rid_any _ _ _))
        | (go_at_call 53; exact over_left (Nat.le_refl _) (rsm_any _ _ _ _)))))
    with_reducible refine wpQuiet_nil ?_
    rintro _ ⟨u, rfl⟩
    have B2 := HB.out u
    generalize u.val = W at B2 ⊢
    go_wp2
    go_ret
    exact ⟨_, rfl, Or.inr ⟨_, _, rfl, row_new⟩, B2.alloc B2.size _⟩
  · go_enter Try.func22, Try.ntmps22
    go_upto_region 18 with (fail)
    generalize (w.alloc (.cells ([.int .i64 11, .int .i64 16, .int .i64 0, .int .i64 0] : List Value).toArray rpT)).alloc (.cells ([.int .i64 12, .int .i64 8, .int .i64 0, .int .i64 0] : List Value).toArray rpT) = V at RK RE BV ⊢
    have HK := Lib.hid (show ∀ u : Over V.heap.size V, u.val.heap[w.heap.size]? = some (.cells ([.int .i64 11, .int .i64 16, .int .i64 0, .int .i64 0] : List Value).toArray rpT) from fun u => row_kept RK u.below (row_lt RK))
    have HE := Lib.hid (show ∀ u : Over V.heap.size V, u.val.heap[w.heap.size + 1]? = some (.cells ([.int .i64 12, .int .i64 8, .int .i64 0, .int .i64 0] : List Value).toArray rpT) from fun u => row_kept RE u.below (row_lt RE))
    have HB := Lib.hid (show ∀ u : Over V.heap.size V, Below w.heap.size w u.val from fun u => BV.trans (u.below.mono BV.size))
    clear RK RE BV z
    refine region_tail_class (fun u : Over V.heap.size V => u.val) ⟨V.drew, below_drewN (Below.refl _ _) 1⟩ rfl 5 (by kernel_rfl) (by kernel_rfl) ?_
    simp only [List.take_succ_cons, List.take_zero, List.drop_succ_cons, List.drop_zero]
    repeat (first
      | ((with_reducible refine wpQuiet_rp ?_ (.tmp 3) ?_ w.heap.size [.int .i64 11, .int .i64 16, .int .i64 0, .int .i64 0] rfl ?_ (fun u => HK.out u) ?_); (rfl); (rfl); (rfl); (conv => arg 6; simp only [Act.put, List.setIfInBounds_toArray, List.set_cons_succ, List.set_cons_zero]))
      | ((with_reducible refine wpQuiet_rp ?_ (.tmp 4) ?_ (w.heap.size + 1) [.int .i64 12, .int .i64 8, .int .i64 0, .int .i64 0] rfl ?_ (fun u => HE.out u) ?_); (rfl); (rfl); (rfl); (conv => arg 6; simp only [Act.put, List.setIfInBounds_toArray, List.set_cons_succ, List.set_cons_zero]))
      | go_big_quiet_step ((first
        | (go_at_call 52; exact over_left (Nat.le_refl _) (rid_any _ _ _))
        | (go_at_call 53; exact over_left (Nat.le_refl _) (rsm_any _ _ _ _)))))
    with_reducible refine wpQuiet_nil ?_
    rintro _ ⟨u, rfl⟩
    have B2 := HB.out u
    generalize u.val = W at B2 ⊢
    go_wp2
    go_ret
    exact ⟨_, rfl, Or.inr ⟨_, _, rfl, row_new⟩, B2.alloc B2.size _⟩
  · go_enter Try.func22, Try.ntmps22
    go_upto_region 20 with (fail)
    generalize (w.alloc (.cells ([.int .i64 11, .int .i64 16, .int .i64 0, .int .i64 0] : List Value).toArray rpT)).alloc (.cells ([.int .i64 12, .int .i64 8, .int .i64 0, .int .i64 0] : List Value).toArray rpT) = V at RK RE BV ⊢
    have HK := Lib.hid (show ∀ u : Over V.heap.size V, u.val.heap[w.heap.size]? = some (.cells ([.int .i64 11, .int .i64 16, .int .i64 0, .int .i64 0] : List Value).toArray rpT) from fun u => row_kept RK u.below (row_lt RK))
    have HE := Lib.hid (show ∀ u : Over V.heap.size V, u.val.heap[w.heap.size + 1]? = some (.cells ([.int .i64 12, .int .i64 8, .int .i64 0, .int .i64 0] : List Value).toArray rpT) from fun u => row_kept RE u.below (row_lt RE))
    have HB := Lib.hid (show ∀ u : Over V.heap.size V, Below w.heap.size w u.val from fun u => BV.trans (u.below.mono BV.size))
    clear RK RE BV z
    refine region_tail_class (fun u : Over V.heap.size V => u.val) ⟨V.drew, below_drewN (Below.refl _ _) 1⟩ rfl 7 (by kernel_rfl) (by kernel_rfl) ?_
    simp only [List.take_succ_cons, List.take_zero, List.drop_succ_cons, List.drop_zero]
    repeat (first
      | ((with_reducible refine wpQuiet_rp ?_ (.tmp 3) ?_ w.heap.size [.int .i64 11, .int .i64 16, .int .i64 0, .int .i64 0] rfl ?_ (fun u => HK.out u) ?_); (rfl); (rfl); (rfl); (conv => arg 6; simp only [Act.put, List.setIfInBounds_toArray, List.set_cons_succ, List.set_cons_zero]))
      | ((with_reducible refine wpQuiet_rp ?_ (.tmp 4) ?_ (w.heap.size + 1) [.int .i64 12, .int .i64 8, .int .i64 0, .int .i64 0] rfl ?_ (fun u => HE.out u) ?_); (rfl); (rfl); (rfl); (conv => arg 6; simp only [Act.put, List.setIfInBounds_toArray, List.set_cons_succ, List.set_cons_zero]))
      | go_big_quiet_step ((first
        | (go_at_call 52; exact over_left (Nat.le_refl _) (rid_any _ _ _))
        | (go_at_call 53; exact over_left (Nat.le_refl _) (rsm_any _ _ _ _)))))
    with_reducible refine wpQuiet_nil ?_
    rintro _ ⟨u, rfl⟩
    have B2 := HB.out u
    generalize u.val = W at B2 ⊢
    go_wp2
    go_ret
    exact ⟨_, rfl, Or.inr ⟨_, _, rfl, row_new⟩, B2.alloc B2.size _⟩
  · go_enter Try.func22, Try.ntmps22
    go_upto_region 22 with (fail)
    generalize (w.alloc (.cells ([.int .i64 11, .int .i64 16, .int .i64 0, .int .i64 0] : List Value).toArray rpT)).alloc (.cells ([.int .i64 12, .int .i64 8, .int .i64 0, .int .i64 0] : List Value).toArray rpT) = V at RK RE BV ⊢
    have HK := Lib.hid (show ∀ u : Over V.heap.size V, u.val.heap[w.heap.size]? = some (.cells ([.int .i64 11, .int .i64 16, .int .i64 0, .int .i64 0] : List Value).toArray rpT) from fun u => row_kept RK u.below (row_lt RK))
    have HE := Lib.hid (show ∀ u : Over V.heap.size V, u.val.heap[w.heap.size + 1]? = some (.cells ([.int .i64 12, .int .i64 8, .int .i64 0, .int .i64 0] : List Value).toArray rpT) from fun u => row_kept RE u.below (row_lt RE))
    have HB := Lib.hid (show ∀ u : Over V.heap.size V, Below w.heap.size w u.val from fun u => BV.trans (u.below.mono BV.size))
    clear RK RE BV z
    refine region_tail_class (fun u : Over V.heap.size V => u.val) ⟨V.drew, below_drewN (Below.refl _ _) 1⟩ rfl 4 (by kernel_rfl) (by kernel_rfl) ?_
    simp only [List.take_succ_cons, List.take_zero, List.drop_succ_cons, List.drop_zero]
    repeat (first
      | ((with_reducible refine wpQuiet_rp ?_ (.tmp 3) ?_ w.heap.size [.int .i64 11, .int .i64 16, .int .i64 0, .int .i64 0] rfl ?_ (fun u => HK.out u) ?_); (rfl); (rfl); (rfl); (conv => arg 6; simp only [Act.put, List.setIfInBounds_toArray, List.set_cons_succ, List.set_cons_zero]))
      | ((with_reducible refine wpQuiet_rp ?_ (.tmp 4) ?_ (w.heap.size + 1) [.int .i64 12, .int .i64 8, .int .i64 0, .int .i64 0] rfl ?_ (fun u => HE.out u) ?_); (rfl); (rfl); (rfl); (conv => arg 6; simp only [Act.put, List.setIfInBounds_toArray, List.set_cons_succ, List.set_cons_zero]))
      | go_big_quiet_step ((first
        | (go_at_call 52; exact over_left (Nat.le_refl _) (rid_any _ _ _))
        | (go_at_call 53; exact over_left (Nat.le_refl _) (rsm_any _ _ _ _)))))
    with_reducible refine wpQuiet_nil ?_
    rintro _ ⟨u, rfl⟩
    have B2 := HB.out u
    generalize u.val = W at B2 ⊢
    go_wp2
    go_ret
    exact ⟨_, rfl, Or.inr ⟨_, _, rfl, row_new⟩, B2.alloc B2.size _⟩
  · go_enter Try.func22, Try.ntmps22
    go_upto_region 14 with (fail)
    generalize (w.alloc (.cells ([.int .i64 11, .int .i64 16, .int .i64 0, .int .i64 0] : List Value).toArray rpT)).alloc (.cells ([.int .i64 12, .int .i64 8, .int .i64 0, .int .i64 0] : List Value).toArray rpT) = V at RK RE BV ⊢
    have HK := Lib.hid (show ∀ u : Over V.heap.size V, u.val.heap[w.heap.size]? = some (.cells ([.int .i64 11, .int .i64 16, .int .i64 0, .int .i64 0] : List Value).toArray rpT) from fun u => row_kept RK u.below (row_lt RK))
    have HE := Lib.hid (show ∀ u : Over V.heap.size V, u.val.heap[w.heap.size + 1]? = some (.cells ([.int .i64 12, .int .i64 8, .int .i64 0, .int .i64 0] : List Value).toArray rpT) from fun u => row_kept RE u.below (row_lt RE))
    have HB := Lib.hid (show ∀ u : Over V.heap.size V, Below w.heap.size w u.val from fun u => BV.trans (u.below.mono BV.size))
    clear RK RE BV z
    refine region_tail_class (fun u : Over V.heap.size V => u.val) ⟨V.drew, below_drewN (Below.refl _ _) 1⟩ rfl 3 (by kernel_rfl) (by kernel_rfl) ?_
    simp only [List.take_succ_cons, List.take_zero, List.drop_succ_cons, List.drop_zero]
    repeat (first
      | ((with_reducible refine wpQuiet_rp ?_ (.tmp 3) ?_ w.heap.size [.int .i64 11, .int .i64 16, .int .i64 0, .int .i64 0] rfl ?_ (fun u => HK.out u) ?_); (rfl); (rfl); (rfl); (conv => arg 6; simp only [Act.put, List.setIfInBounds_toArray, List.set_cons_succ, List.set_cons_zero]))
      | ((with_reducible refine wpQuiet_rp ?_ (.tmp 4) ?_ (w.heap.size + 1) [.int .i64 12, .int .i64 8, .int .i64 0, .int .i64 0] rfl ?_ (fun u => HE.out u) ?_); (rfl); (rfl); (rfl); (conv => arg 6; simp only [Act.put, List.setIfInBounds_toArray, List.set_cons_succ, List.set_cons_zero]))
      | go_big_quiet_step ((first
        | (go_at_call 52; exact over_left (Nat.le_refl _) (rid_any _ _ _))
        | (go_at_call 53; exact over_left (Nat.le_refl _) (rsm_any _ _ _ _)))))
    with_reducible refine wpQuiet_nil ?_
    rintro _ ⟨u, rfl⟩
    have B2 := HB.out u
    generalize u.val = W at B2 ⊢
    go_wp2
    go_ret
    exact ⟨_, rfl, Or.inr ⟨_, _, rfl, row_new⟩, B2.alloc B2.size _⟩
  · go_enter Try.func22, Try.ntmps22
    go_upto_region 24 with (fail)
    generalize (w.alloc (.cells ([.int .i64 11, .int .i64 16, .int .i64 0, .int .i64 0] : List Value).toArray rpT)).alloc (.cells ([.int .i64 12, .int .i64 8, .int .i64 0, .int .i64 0] : List Value).toArray rpT) = V at RK RE BV ⊢
    have HK := Lib.hid (show ∀ u : Over V.heap.size V, u.val.heap[w.heap.size]? = some (.cells ([.int .i64 11, .int .i64 16, .int .i64 0, .int .i64 0] : List Value).toArray rpT) from fun u => row_kept RK u.below (row_lt RK))
    have HE := Lib.hid (show ∀ u : Over V.heap.size V, u.val.heap[w.heap.size + 1]? = some (.cells ([.int .i64 12, .int .i64 8, .int .i64 0, .int .i64 0] : List Value).toArray rpT) from fun u => row_kept RE u.below (row_lt RE))
    have HB := Lib.hid (show ∀ u : Over V.heap.size V, Below w.heap.size w u.val from fun u => BV.trans (u.below.mono BV.size))
    clear RK RE BV z
    refine region_tail_class (fun u : Over V.heap.size V => u.val) ⟨V.drew, below_drewN (Below.refl _ _) 1⟩ rfl 4 (by kernel_rfl) (by kernel_rfl) ?_
    simp only [List.take_succ_cons, List.take_zero, List.drop_succ_cons, List.drop_zero]
    repeat (first
      | ((with_reducible refine wpQuiet_rp ?_ (.tmp 3) ?_ w.heap.size [.int .i64 11, .int .i64 16, .int .i64 0, .int .i64 0] rfl ?_ (fun u => HK.out u) ?_); (rfl); (rfl); (rfl); (conv => arg 6; simp only [Act.put, List.setIfInBounds_toArray, List.set_cons_succ, List.set_cons_zero]))
      | ((with_reducible refine wpQuiet_rp ?_ (.tmp 4) ?_ (w.heap.size + 1) [.int .i64 12, .int .i64 8, .int .i64 0, .int .i64 0] rfl ?_ (fun u => HE.out u) ?_); (rfl); (rfl); (rfl); (conv => arg 6; simp only [Act.put, List.setIfInBounds_toArray, List.set_cons_succ, List.set_cons_zero]))
      | go_big_quiet_step ((first
        | (go_at_call 52; exact over_left (Nat.le_refl _) (rid_any _ _ _))
        | (go_at_call 53; exact over_left (Nat.le_refl _) (rsm_any _ _ _ _)))))
    with_reducible refine wpQuiet_nil ?_
    rintro _ ⟨u, rfl⟩
    have B2 := HB.out u
    generalize u.val = W at B2 ⊢
    go_wp2
    go_ret
    exact ⟨_, rfl, Or.inr ⟨_, _, rfl, row_new⟩, B2.alloc B2.size _⟩
  · go_enter Try.func22, Try.ntmps22
    go_upto_region 26 with (fail)
    generalize (w.alloc (.cells ([.int .i64 11, .int .i64 16, .int .i64 0, .int .i64 0] : List Value).toArray rpT)).alloc (.cells ([.int .i64 12, .int .i64 8, .int .i64 0, .int .i64 0] : List Value).toArray rpT) = V at RK RE BV ⊢
    go_wp2_with (first
      | (go_at_call 52; refine (rid_any _ _ _).mono ?_; rintro e w' ⟨rfl, hb⟩; have BV := BV.trans (hb.mono BV.size); clear hb)
      | (go_at_call 53; refine (rsm_any _ _ _ _).mono ?_; rintro e w' ⟨rfl, hb⟩; have BV := BV.trans (hb.mono BV.size); clear hb))
    go_ret
    exact ⟨_, rfl, Or.inr ⟨_, _, rfl, row_new⟩, BV.alloc BV.size _⟩
end Go.Proofs.Ytnfdfnkhjlkdhaa
