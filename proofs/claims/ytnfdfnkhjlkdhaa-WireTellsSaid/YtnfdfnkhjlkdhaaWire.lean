/- What the parts of a packet come to: where they are, what holds of them. -/
import Derived.Test.YtnfdfnkhjlkdhaaWireMath
import Derived.Test.YtnfdfnkhjlkdhaaPut
import Derived.Test.YtnfdfnkhjlkdhaaTail3
import Derived.Test.YtnfdfnkhjlkdhaaMark
import Derived.Laws.ResultCell
namespace Go.Proofs.Ytnfdfnkhjlkdhaa
open Go.ChangeShapes Go.WideShapes Go.ChangeAt Go.RowKit
abbrev ptT : TypeId := 46
theorem info_pt : (Try.prog.info? ptT).map (·.size) = some 5 := by kernel_rfl
abbrev ptZ : List Value := [.nilFunc, .nilFunc, .int .i64 0, .int .i64 0, .int .i64 0]
theorem zero_pt (W : World) : (zeroValue ptT).run Try.prog W = .ok (.agg ptZ.toArray) W := by kernel_rfl
theorem row_results {P : Program} {T : TypeId} {d : TypeDesc} {n : Nat} {fn : Func} {u : Tmp} (hu : P.underlying T = some d) (hd : d.isRow = true) (hi : (P.info? T).map (·.size) = some n) (hr : fn.results = #[.cell u T]) {tmps : Array Value} {W : World} {g : Nat} {L : List Value} (hL : L.length = n) (h6 : tmps.getD u undef = .pointer (some ⟨g, 0, none⟩)) (hW : W.heap[g]? = some (.cells L.toArray T)) :
    (results fn tmps).run P W = .ok (.agg L.toArray) W := by
  have hl := run_loadVar_mid (P := P) W g 0 T L _ (range_row hW) hu hd (by rw [hi, hL])
  rw [results_cell_one hr tmps P W, h6]
  simp only [asAddr, Sem.run_pure, Result.andThen_ok, hl]
theorem at_session (w : World) (g : Nat) : Calls Try.prog 60 #[.pointer (some ⟨g, 0, none⟩)] w fun e w' => e = .returned (.pointer (some ⟨g, 1, none⟩)) ∧ w = w' := by
  go_enter Try.func60, Try.ntmps60
  go_wp2
  go_ret
  exact ⟨rfl, rfl⟩
theorem at_seq (w : World) (g : Nat) : Calls Try.prog 61 #[.pointer (some ⟨g, 0, none⟩)] w fun e w' => e = .returned (.pointer (some ⟨g, 2, none⟩)) ∧ w = w' := by
  go_enter Try.func61, Try.ntmps61
  go_wp2
  go_ret
  exact ⟨rfl, rfl⟩
theorem at_user (w : World) (g : Nat) : Calls Try.prog 59 #[.pointer (some ⟨g, 0, none⟩)] w fun e w' => e = .returned (.pointer (some ⟨g, 3, none⟩)) ∧ w = w' := by
  go_enter Try.func59, Try.ntmps59
  go_wp2
  go_ret
  exact ⟨rfl, rfl⟩
theorem at_op (w : World) (g : Nat) : Calls Try.prog 64 #[.pointer (some ⟨g, 0, none⟩)] w fun e w' => e = .returned (.pointer (some ⟨g, 4, none⟩)) ∧ w = w' := by
  go_enter Try.func64, Try.ntmps64
  go_wp2
  go_ret
  exact ⟨rfl, rfl⟩
theorem at_status (w : World) (g : Nat) : Calls Try.prog 63 #[.pointer (some ⟨g, 0, none⟩)] w fun e w' => e = .returned (.pointer (some ⟨g, 5, none⟩)) ∧ w = w' := by
  go_enter Try.func63, Try.ntmps63
  go_wp2
  go_ret
  exact ⟨rfl, rfl⟩
theorem at_count (w : World) (g : Nat) : Calls Try.prog 66 #[.pointer (some ⟨g, 0, none⟩)] w fun e w' => e = .returned (.pointer (some ⟨g, 6, none⟩)) ∧ w = w' := by
  go_enter Try.func66, Try.ntmps66
  go_wp2
  go_ret
  exact ⟨rfl, rfl⟩
theorem at_version (w : World) (g : Nat) : Calls Try.prog 65 #[.pointer (some ⟨g, 0, none⟩)] w fun e w' => e = .returned (.pointer (some ⟨g, 7, none⟩)) ∧ w = w' := by
  go_enter Try.func65, Try.ntmps65
  go_wp2
  go_ret
  exact ⟨rfl, rfl⟩
theorem at_ack (w : World) (g : Nat) : Calls Try.prog 67 #[.pointer (some ⟨g, 0, none⟩)] w fun e w' => e = .returned (.pointer (some ⟨g, 8, none⟩)) ∧ w = w' := by
  go_enter Try.func67, Try.ntmps67
  go_wp2
  go_ret
  exact ⟨rfl, rfl⟩
theorem at_sack (w : World) (g : Nat) : Calls Try.prog 68 #[.pointer (some ⟨g, 0, none⟩)] w fun e w' => e = .returned (.pointer (some ⟨g, 9, none⟩)) ∧ w = w' := by
  go_enter Try.func68, Try.ntmps68
  go_wp2
  go_ret
  exact ⟨rfl, rfl⟩
theorem at_nonce (w : World) (g : Nat) : Calls Try.prog 56 #[.pointer (some ⟨g, 0, none⟩)] w fun e w' => e = .returned (.pointer (some ⟨g, 10, none⟩)) ∧ w = w' := by
  go_enter Try.func56, Try.ntmps56
  go_wp2
  go_ret
  exact ⟨rfl, rfl⟩
theorem at_epoch (w : World) (g : Nat) : Calls Try.prog 57 #[.pointer (some ⟨g, 0, none⟩)] w fun e w' => e = .returned (.pointer (some ⟨g, 11, none⟩)) ∧ w = w' := by
  go_enter Try.func57, Try.ntmps57
  go_wp2
  go_ret
  exact ⟨rfl, rfl⟩
theorem at_secret (w : World) (g : Nat) : Calls Try.prog 58 #[.pointer (some ⟨g, 0, none⟩)] w fun e w' => e = .returned (.slice (some ⟨g, 12, none⟩) 16 16) ∧ w = w' := by
  go_enter Try.func58, Try.ntmps58
  go_wp2
  go_ret
  exact ⟨rfl, rfl⟩
theorem at_tag (w : World) (g : Nat) : Calls Try.prog 62 #[.pointer (some ⟨g, 0, none⟩)] w fun e w' => e = .returned (.slice (some ⟨g, 28, none⟩) 8 8) ∧ w = w' := by
  go_enter Try.func62, Try.ntmps62
  go_wp2
  go_ret
  exact ⟨rfl, rfl⟩
theorem is_session (w : World) : Calls Try.prog 43 #[] w fun e w' => e = .returned (.agg #[.func (.func 60) #[] #[], .nilFunc, .int .i64 4, .int .i64 1, .int .i64 1073741824]) ∧ Below w.heap.size w w' := by
  go_enter Try.func43, Try.ntmps43
  have R := row_new (W := w) (cs := ptZ.toArray) (t := ptT) (m := (0, 0))
  have B : Below w.heap.size w (w.alloc (.cells ptZ.toArray ptT)) := (Below.refl _ _).alloc (Nat.le_refl _) _
  go_wp2_with (first
    | (refine wpl_arr_store info_pt rfl (.tmp 0) (.tmp 1) rfl w.heap.size [.func (.func 60) #[] #[], .nilFunc, .int .i64 4, .int .i64 1, .int .i64 1073741824] ptZ rfl rfl (by simp [Value.oneCell']) rfl rfl R ?_))
  exact bodyPost_ret (row_results Try.underlying46 rfl info_pt Try.results43 rfl rfl (row_written R)) rfl ⟨rfl, setRow_below B (Nat.le_refl _)⟩
theorem is_seq (w : World) : Calls Try.prog 44 #[] w fun e w' => e = .returned (.agg #[.func (.func 61) #[] #[], .nilFunc, .int .i64 4, .int .i64 1, .int .i64 1073741824]) ∧ Below w.heap.size w w' := by
  go_enter Try.func44, Try.ntmps44
  have R := row_new (W := w) (cs := ptZ.toArray) (t := ptT) (m := (0, 0))
  have B : Below w.heap.size w (w.alloc (.cells ptZ.toArray ptT)) := (Below.refl _ _).alloc (Nat.le_refl _) _
  go_wp2_with (first
    | (refine wpl_arr_store info_pt rfl (.tmp 0) (.tmp 1) rfl w.heap.size [.func (.func 61) #[] #[], .nilFunc, .int .i64 4, .int .i64 1, .int .i64 1073741824] ptZ rfl rfl (by simp [Value.oneCell']) rfl rfl R ?_))
  exact bodyPost_ret (row_results Try.underlying46 rfl info_pt Try.results44 rfl rfl (row_written R)) rfl ⟨rfl, setRow_below B (Nat.le_refl _)⟩
theorem is_user (w : World) (l : Int) : Calls Try.prog 42 #[.int .i64 l] w fun e w' => e = .returned (.agg #[.func (.func 59) #[] #[], .nilFunc, .int .i64 1, .int .i64 l, .int .i64 16]) ∧ Below w.heap.size w w' := by
  go_enter Try.func42, Try.ntmps42
  have R := row_new (W := w) (cs := ptZ.toArray) (t := ptT) (m := (0, 0))
  have B : Below w.heap.size w (w.alloc (.cells ptZ.toArray ptT)) := (Below.refl _ _).alloc (Nat.le_refl _) _
  go_wp2_with (first
    | (refine wpl_arr_store info_pt rfl (.tmp 2) (.tmp 4) rfl w.heap.size [.func (.func 59) #[] #[], .nilFunc, .int .i64 1, .int .i64 l, .int .i64 16] ptZ rfl rfl (by simp [Value.oneCell']) rfl rfl R ?_))
  exact bodyPost_ret (row_results Try.underlying46 rfl info_pt Try.results42 rfl rfl (row_written R)) rfl ⟨rfl, setRow_below B (Nat.le_refl _)⟩
theorem is_op (w : World) (l : Int) (m : Int) : Calls Try.prog 47 #[.int .i64 l, .int .i64 m] w fun e w' => e = .returned (.agg #[.func (.func 64) #[] #[], .nilFunc, .int .i64 1, .int .i64 l, .int .i64 m]) ∧ Below w.heap.size w w' := by
  go_enter Try.func47, Try.ntmps47
  have R := row_new (W := w) (cs := ptZ.toArray) (t := ptT) (m := (0, 0))
  have B : Below w.heap.size w (w.alloc (.cells ptZ.toArray ptT)) := (Below.refl _ _).alloc (Nat.le_refl _) _
  go_wp2_with (first
    | (refine wpl_arr_store info_pt rfl (.tmp 4) (.tmp 7) rfl w.heap.size [.func (.func 64) #[] #[], .nilFunc, .int .i64 1, .int .i64 l, .int .i64 m] ptZ rfl rfl (by simp [Value.oneCell']) rfl rfl R ?_))
  exact bodyPost_ret (row_results Try.underlying46 rfl info_pt Try.results47 rfl rfl (row_written R)) rfl ⟨rfl, setRow_below B (Nat.le_refl _)⟩
theorem is_status (w : World) (l : Int) : Calls Try.prog 46 #[.int .i64 l] w fun e w' => e = .returned (.agg #[.func (.func 63) #[] #[], .nilFunc, .int .i64 1, .int .i64 l, .int .i64 3]) ∧ Below w.heap.size w w' := by
  go_enter Try.func46, Try.ntmps46
  have R := row_new (W := w) (cs := ptZ.toArray) (t := ptT) (m := (0, 0))
  have B : Below w.heap.size w (w.alloc (.cells ptZ.toArray ptT)) := (Below.refl _ _).alloc (Nat.le_refl _) _
  go_wp2_with (first
    | (refine wpl_arr_store info_pt rfl (.tmp 2) (.tmp 4) rfl w.heap.size [.func (.func 63) #[] #[], .nilFunc, .int .i64 1, .int .i64 l, .int .i64 3] ptZ rfl rfl (by simp [Value.oneCell']) rfl rfl R ?_))
  exact bodyPost_ret (row_results Try.underlying46 rfl info_pt Try.results46 rfl rfl (row_written R)) rfl ⟨rfl, setRow_below B (Nat.le_refl _)⟩
theorem is_count (w : World) : Calls Try.prog 49 #[] w fun e w' => e = .returned (.agg #[.func (.func 66) #[] #[], .nilFunc, .int .i64 1, .int .i64 0, .int .i64 4]) ∧ Below w.heap.size w w' := by
  go_enter Try.func49, Try.ntmps49
  have R := row_new (W := w) (cs := ptZ.toArray) (t := ptT) (m := (0, 0))
  have B : Below w.heap.size w (w.alloc (.cells ptZ.toArray ptT)) := (Below.refl _ _).alloc (Nat.le_refl _) _
  go_wp2_with (first
    | (refine wpl_arr_store info_pt rfl (.tmp 0) (.tmp 1) rfl w.heap.size [.func (.func 66) #[] #[], .nilFunc, .int .i64 1, .int .i64 0, .int .i64 4] ptZ rfl rfl (by simp [Value.oneCell']) rfl rfl R ?_))
  exact bodyPost_ret (row_results Try.underlying46 rfl info_pt Try.results49 rfl rfl (row_written R)) rfl ⟨rfl, setRow_below B (Nat.le_refl _)⟩
theorem is_version (w : World) : Calls Try.prog 48 #[] w fun e w' => e = .returned (.agg #[.func (.func 65) #[] #[], .nilFunc, .int .i64 4, .int .i64 0, .int .i64 1073741824]) ∧ Below w.heap.size w w' := by
  go_enter Try.func48, Try.ntmps48
  have R := row_new (W := w) (cs := ptZ.toArray) (t := ptT) (m := (0, 0))
  have B : Below w.heap.size w (w.alloc (.cells ptZ.toArray ptT)) := (Below.refl _ _).alloc (Nat.le_refl _) _
  go_wp2_with (first
    | (refine wpl_arr_store info_pt rfl (.tmp 0) (.tmp 1) rfl w.heap.size [.func (.func 65) #[] #[], .nilFunc, .int .i64 4, .int .i64 0, .int .i64 1073741824] ptZ rfl rfl (by simp [Value.oneCell']) rfl rfl R ?_))
  exact bodyPost_ret (row_results Try.underlying46 rfl info_pt Try.results48 rfl rfl (row_written R)) rfl ⟨rfl, setRow_below B (Nat.le_refl _)⟩
theorem is_ack (w : World) : Calls Try.prog 50 #[] w fun e w' => e = .returned (.agg #[.func (.func 67) #[] #[], .nilFunc, .int .i64 4, .int .i64 0, .int .i64 1073741824]) ∧ Below w.heap.size w w' := by
  go_enter Try.func50, Try.ntmps50
  have R := row_new (W := w) (cs := ptZ.toArray) (t := ptT) (m := (0, 0))
  have B : Below w.heap.size w (w.alloc (.cells ptZ.toArray ptT)) := (Below.refl _ _).alloc (Nat.le_refl _) _
  go_wp2_with (first
    | (refine wpl_arr_store info_pt rfl (.tmp 0) (.tmp 1) rfl w.heap.size [.func (.func 67) #[] #[], .nilFunc, .int .i64 4, .int .i64 0, .int .i64 1073741824] ptZ rfl rfl (by simp [Value.oneCell']) rfl rfl R ?_))
  exact bodyPost_ret (row_results Try.underlying46 rfl info_pt Try.results50 rfl rfl (row_written R)) rfl ⟨rfl, setRow_below B (Nat.le_refl _)⟩
theorem is_sack (w : World) : Calls Try.prog 51 #[] w fun e w' => e = .returned (.agg #[.func (.func 68) #[] #[], .nilFunc, .int .i64 1, .int .i64 0, .int .i64 255]) ∧ Below w.heap.size w w' := by
  go_enter Try.func51, Try.ntmps51
  have R := row_new (W := w) (cs := ptZ.toArray) (t := ptT) (m := (0, 0))
  have B : Below w.heap.size w (w.alloc (.cells ptZ.toArray ptT)) := (Below.refl _ _).alloc (Nat.le_refl _) _
  go_wp2_with (first
    | (refine wpl_arr_store info_pt rfl (.tmp 0) (.tmp 1) rfl w.heap.size [.func (.func 68) #[] #[], .nilFunc, .int .i64 1, .int .i64 0, .int .i64 255] ptZ rfl rfl (by simp [Value.oneCell']) rfl rfl R ?_))
  exact bodyPost_ret (row_results Try.underlying46 rfl info_pt Try.results51 rfl rfl (row_written R)) rfl ⟨rfl, setRow_below B (Nat.le_refl _)⟩
theorem is_nonce (w : World) : Calls Try.prog 39 #[] w fun e w' => e = .returned (.agg #[.func (.func 56) #[] #[], .nilFunc, .int .i64 4, .int .i64 0, .int .i64 1073741824]) ∧ Below w.heap.size w w' := by
  go_enter Try.func39, Try.ntmps39
  have R := row_new (W := w) (cs := ptZ.toArray) (t := ptT) (m := (0, 0))
  have B : Below w.heap.size w (w.alloc (.cells ptZ.toArray ptT)) := (Below.refl _ _).alloc (Nat.le_refl _) _
  go_wp2_with (first
    | (refine wpl_arr_store info_pt rfl (.tmp 0) (.tmp 1) rfl w.heap.size [.func (.func 56) #[] #[], .nilFunc, .int .i64 4, .int .i64 0, .int .i64 1073741824] ptZ rfl rfl (by simp [Value.oneCell']) rfl rfl R ?_))
  exact bodyPost_ret (row_results Try.underlying46 rfl info_pt Try.results39 rfl rfl (row_written R)) rfl ⟨rfl, setRow_below B (Nat.le_refl _)⟩
theorem is_epoch (w : World) : Calls Try.prog 40 #[] w fun e w' => e = .returned (.agg #[.func (.func 57) #[] #[], .nilFunc, .int .i64 4, .int .i64 0, .int .i64 1073741824]) ∧ Below w.heap.size w w' := by
  go_enter Try.func40, Try.ntmps40
  have R := row_new (W := w) (cs := ptZ.toArray) (t := ptT) (m := (0, 0))
  have B : Below w.heap.size w (w.alloc (.cells ptZ.toArray ptT)) := (Below.refl _ _).alloc (Nat.le_refl _) _
  go_wp2_with (first
    | (refine wpl_arr_store info_pt rfl (.tmp 0) (.tmp 1) rfl w.heap.size [.func (.func 57) #[] #[], .nilFunc, .int .i64 4, .int .i64 0, .int .i64 1073741824] ptZ rfl rfl (by simp [Value.oneCell']) rfl rfl R ?_))
  exact bodyPost_ret (row_results Try.underlying46 rfl info_pt Try.results40 rfl rfl (row_written R)) rfl ⟨rfl, setRow_below B (Nat.le_refl _)⟩
theorem is_secret (w : World) : Calls Try.prog 41 #[] w fun e w' => e = .returned (.agg #[.nilFunc, .func (.func 58) #[] #[], .int .i64 0, .int .i64 0, .int .i64 0]) ∧ Below w.heap.size w w' := by
  go_enter Try.func41, Try.ntmps41
  have R := row_new (W := w) (cs := ptZ.toArray) (t := ptT) (m := (0, 0))
  have B : Below w.heap.size w (w.alloc (.cells ptZ.toArray ptT)) := (Below.refl _ _).alloc (Nat.le_refl _) _
  go_wp2_with (first
    | (refine wpl_arr_store info_pt rfl (.tmp 0) (.tmp 1) rfl w.heap.size [.nilFunc, .func (.func 58) #[] #[], .int .i64 0, .int .i64 0, .int .i64 0] ptZ rfl rfl (by simp [Value.oneCell']) rfl rfl R ?_))
  exact bodyPost_ret (row_results Try.underlying46 rfl info_pt Try.results41 rfl rfl (row_written R)) rfl ⟨rfl, setRow_below B (Nat.le_refl _)⟩
theorem is_tag (w : World) : Calls Try.prog 45 #[] w fun e w' => e = .returned (.agg #[.nilFunc, .func (.func 62) #[] #[], .int .i64 0, .int .i64 0, .int .i64 0]) ∧ Below w.heap.size w w' := by
  go_enter Try.func45, Try.ntmps45
  have R := row_new (W := w) (cs := ptZ.toArray) (t := ptT) (m := (0, 0))
  have B : Below w.heap.size w (w.alloc (.cells ptZ.toArray ptT)) := (Below.refl _ _).alloc (Nat.le_refl _) _
  go_wp2_with (first
    | (refine wpl_arr_store info_pt rfl (.tmp 0) (.tmp 1) rfl w.heap.size [.nilFunc, .func (.func 62) #[] #[], .int .i64 0, .int .i64 0, .int .i64 0] ptZ rfl rfl (by simp [Value.oneCell']) rfl rfl R ?_))
  exact bodyPost_ret (row_results Try.underlying46 rfl info_pt Try.results45 rfl rfl (row_written R)) rfl ⟨rfl, setRow_below B (Nat.le_refl _)⟩
set_option maxRecDepth 100000 in
set_option maxHeartbeats 2000000 in
theorem held_any (k : Int) (w : World) : Calls Try.prog 20 #[.int .i64 k] w fun e w' => ∃ A, e = .returned (.slice A (held k).length (held k).length) ∧ PtsAt w' A (held k) ∧ Below w.heap.size w w' := by
  have B : Below w.heap.size w w := Below.refl _ _
  rcases held_cases k with rfl | rfl | rfl | rfl | rfl | rfl | rfl | rfl | rfl | rfl | rfl | rfl | h
  case inr.inr.inr.inr.inr.inr.inr.inr.inr.inr.inr.inr =>
    rw [held_none h]
    obtain ⟨h1, h2, h3, h4, h5, h6, h7, h8, h9, h10, h11, h12⟩ := h
    have b1 : (k == 1) = false := beq_eq_false_iff_ne.2 h1
    have b2 : (k == 2) = false := beq_eq_false_iff_ne.2 h2
    have b3 : (k == 3) = false := beq_eq_false_iff_ne.2 h3
    have b4 : (k == 4) = false := beq_eq_false_iff_ne.2 h4
    have b5 : (k == 5) = false := beq_eq_false_iff_ne.2 h5
    have b6 : (k == 6) = false := beq_eq_false_iff_ne.2 h6
    have b7 : (k == 7) = false := beq_eq_false_iff_ne.2 h7
    have b8 : (k == 8) = false := beq_eq_false_iff_ne.2 h8
    have b9 : (k == 9) = false := beq_eq_false_iff_ne.2 h9
    have b10 : (k == 10) = false := beq_eq_false_iff_ne.2 h10
    have b11 : (k == 11) = false := beq_eq_false_iff_ne.2 h11
    have b12 : (k == 12) = false := beq_eq_false_iff_ne.2 h12
    clear h1 h2 h3 h4 h5 h6 h7 h8 h9 h10 h11 h12
    go_enter Try.func20, Try.ntmps20
    go_wp2
    go_ret
    exact ⟨none, rfl, Or.inl rfl, B⟩
  all_goals
    go_enter Try.func20, Try.ntmps20
    go_wp2_with (first
      | (go_at_call 43; refine (is_session _).mono ?_; rintro e w' ⟨rfl, hb⟩; have B := B.trans (hb.mono B.size); clear hb)
      | (go_at_call 44; refine (is_seq _).mono ?_; rintro e w' ⟨rfl, hb⟩; have B := B.trans (hb.mono B.size); clear hb)
      | (go_at_call 42; refine (is_user _ _).mono ?_; rintro e w' ⟨rfl, hb⟩; have B := B.trans (hb.mono B.size); clear hb)
      | (go_at_call 47; refine (is_op _ _ _).mono ?_; rintro e w' ⟨rfl, hb⟩; have B := B.trans (hb.mono B.size); clear hb)
      | (go_at_call 46; refine (is_status _ _).mono ?_; rintro e w' ⟨rfl, hb⟩; have B := B.trans (hb.mono B.size); clear hb)
      | (go_at_call 49; refine (is_count _).mono ?_; rintro e w' ⟨rfl, hb⟩; have B := B.trans (hb.mono B.size); clear hb)
      | (go_at_call 48; refine (is_version _).mono ?_; rintro e w' ⟨rfl, hb⟩; have B := B.trans (hb.mono B.size); clear hb)
      | (go_at_call 50; refine (is_ack _).mono ?_; rintro e w' ⟨rfl, hb⟩; have B := B.trans (hb.mono B.size); clear hb)
      | (go_at_call 51; refine (is_sack _).mono ?_; rintro e w' ⟨rfl, hb⟩; have B := B.trans (hb.mono B.size); clear hb)
      | (go_at_call 39; refine (is_nonce _).mono ?_; rintro e w' ⟨rfl, hb⟩; have B := B.trans (hb.mono B.size); clear hb)
      | (go_at_call 40; refine (is_epoch _).mono ?_; rintro e w' ⟨rfl, hb⟩; have B := B.trans (hb.mono B.size); clear hb)
      | (go_at_call 41; refine (is_secret _).mono ?_; rintro e w' ⟨rfl, hb⟩; have B := B.trans (hb.mono B.size); clear hb)
      | (go_at_call 45; refine (is_tag _).mono ?_; rintro e w' ⟨rfl, hb⟩; have B := B.trans (hb.mono B.size); clear hb)
      )
    go_ret
    exact ⟨_, rfl, Or.inr ⟨_, _, rfl, row_new⟩, B.alloc B.size _⟩
end Go.Proofs.Ytnfdfnkhjlkdhaa
