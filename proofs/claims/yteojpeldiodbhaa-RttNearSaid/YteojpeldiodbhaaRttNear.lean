/- RttNear holds for any Rtt and any time: a round trip moves the smooth time towards it, never beyond. No condition. -/
import Derived.Test.YteojpeldiodbhaaRttOpen
import Derived.Test.YteojpeldiodbhaaRttMath2
namespace Go.Proofs.Yteojpeldiodbhaa.rttNear
open Go.ChangeShapes Go.WideShapes Go.ChangeAt Go.RowKit

set_option maxHeartbeats 4000000 in
/-- The walk, where the Rtt is right and saw one, with what the round trip comes to. -/
theorem step (s v rto f : Int) (r : Int) (w : World) (x1 x2 x3 x4 : Int) (x5 : Bool) (hx : Rtt.sample ⟨s, v, rto, f, true⟩ r = ⟨x1, x2, x3, x4, x5⟩) (hr : Rtt.right ⟨s, v, rto, f, true⟩ = true)
    (s0 : 0 ≤ s) (s1 : s ≤ 32768) (v0 : 0 ≤ v) (v1 : v ≤ 16384) (r0 : 0 ≤ r) (r1 : r ≤ 4096) (y0 : 0 ≤ x1) (y1 : x1 ≤ 32768) (u0 : 0 ≤ x2) (u1 : x2 ≤ 16384)
    (hc : (s / 8 < r ∧ s / 8 ≤ x1 / 8 ∧ x1 / 8 ≤ r ∧ ((v < 4 * (r - s / 8) + 3 ∧ x2 ≤ 4 * (r - s / 8) + 3) ∨ (4 * (r - s / 8) + 3 ≤ v ∧ x2 ≤ v))) ∨
      (r < s / 8 ∧ r ≤ x1 / 8 ∧ x1 / 8 ≤ s / 8 ∧ ((v < 4 * (s / 8 - r) + 3 ∧ x2 ≤ 4 * (s / 8 - r) + 3) ∨ (4 * (s / 8 - r) + 3 ≤ v ∧ x2 ≤ v))) ∨
      (s / 8 = r ∧ x1 = s ∧ ((v < 3 ∧ x2 ≤ 3) ∨ (3 ≤ v ∧ x2 ≤ v)))) :
    Calls Try.prog 7 #[.agg #[.int .i64 s, .int .i64 v, .int .i64 rto, .int .i64 f, .bool true], .int .i64 r] w fun e w' => e = .returned (.bool true) ∧ Below w.heap.size w w' := by
  have Hx := Lib.hid hx
  clear hx
  rcases hc with ⟨c1, c2, c3, ⟨c4, c5⟩ | ⟨c4, c5⟩⟩ | ⟨c1, c2, c3, ⟨c4, c5⟩ | ⟨c4, c5⟩⟩ | ⟨c1, rfl, c4⟩
  rotate_right
  · subst c1
    rcases c4 with ⟨c4, c5⟩ | ⟨c4, c5⟩
    all_goals
      go_enter Try.func7, Try.ntmps7
      go_wp2_with fail
      refine (small_any _).mono ?_
      rintro e' w1 ⟨rfl, hb1⟩
      obtain ⟨R1, z1, b1⟩ := new_kept hb1
      have K1 := row_cells R1
      clear hb1
      go_wp2_with (first
        | (go_at_call 11; refine (right_any _ _ _ _ _ _).mono ?_; rintro e w2 ⟨rfl, hb2⟩; have K2 := cells_kept K1 hb2 z1)
        )
      refine (sample_to Hx.out _).mono ?_
      rintro e w3 ⟨rfl, hb3⟩
      have B2 := b1.trans (hb2.mono b1.size)
      have B3 := B2.trans (hb3.mono B2.size)
      have K3 := cells_kept K2 hb3 (lt_kept z1 hb2)
      have z3 := lt_kept (lt_kept z1 hb2) hb3
      clear K1 K2
      go_wp2
      go_ret
      exact ⟨rfl, B3.alloc B3.size _⟩
  all_goals
    go_enter Try.func7, Try.ntmps7
    go_wp2_with fail
    refine (small_any _).mono ?_
    rintro e' w1 ⟨rfl, hb1⟩
    obtain ⟨R1, z1, b1⟩ := new_kept hb1
    have K1 := row_cells R1
    clear hb1
    go_wp2_with (first
      | (go_at_call 11; refine (right_any _ _ _ _ _ _).mono ?_; rintro e w2 ⟨rfl, hb2⟩; have K2 := cells_kept K1 hb2 z1)
      )
    refine (sample_to Hx.out _).mono ?_
    rintro e w3 ⟨rfl, hb3⟩
    have B2 := b1.trans (hb2.mono b1.size)
    have B3 := B2.trans (hb3.mono B2.size)
    have K3 := cells_kept K2 hb3 (lt_kept z1 hb2)
    have z3 := lt_kept (lt_kept z1 hb2) hb3
    clear K1 K2
    go_wp2
    go_ret
    exact ⟨rfl, B3.alloc B3.size _⟩

set_option maxHeartbeats 1000000 in
theorem walk (w : World) (s v rto f : Int) (has : Bool) (ws : (Lit.int .i64 s).wf = true) (wv : (Lit.int .i64 v).wf = true) (wr : (Lit.int .i64 rto).wf = true) (wf : (Lit.int .i64 f).wf = true) (r : Int) (wr' : (Lit.int .i64 r).wf = true) :
    Calls Try.prog 7 #[.agg #[.int .i64 s, .int .i64 v, .int .i64 rto, .int .i64 f, .bool has], .int .i64 r] w fun e w' => e = .returned (.bool true) ∧ Below w.heap.size w w' := by
  clear ws wv wr wf wr'
  by_cases hr : Rtt.right ⟨s, v, rto, f, has⟩ = true
  · cases has with
    | true =>
      by_cases h : r < 0 ∨ 4096 < r
      · rcases h with h | h
        all_goals
          go_enter Try.func7, Try.ntmps7
          go_wp2_with fail
          refine (small_any _).mono ?_
          rintro e' w1 ⟨rfl, hb1⟩
          obtain ⟨R1, z1, b1⟩ := new_kept hb1
          have K1 := row_cells R1
          clear hb1
          go_wp2_with (first
            | (go_at_call 11; refine (right_any _ _ _ _ _ _).mono ?_; rintro e w2 ⟨rfl, hb2⟩; have K2 := cells_kept K1 hb2 z1)
            )
          all_goals (first | (go_ret; exact ⟨rfl, b1.trans (hb2.mono b1.size)⟩) | (exfalso; omega))
      · have ho := (Rtt.right_iff _).1 hr
        obtain ⟨n1, n2, n3, n4⟩ := Rtt.near _ r (by omega) (by omega) ho rfl
        obtain ⟨p1, p2, p3, p4, -⟩ := Rtt.sample_ok ⟨s, v, rto, f, true⟩ r
        generalize hx : Rtt.sample ⟨s, v, rto, f, true⟩ r = x at n1 n2 n3 n4 p1 p2 p3 p4
        obtain ⟨x1, x2, x3, x4, x5⟩ := x
        obtain ⟨a1, a2, a3, a4, -⟩ := ho
        simp only at n1 n2 n3 n4 p1 p2 p3 p4 a1 a2 a3 a4
        refine step s v rto f r w x1 x2 x3 x4 x5 hx hr a1 a2 a3 a4 (by omega) (by omega) p1 p2 p3 p4 ?_
        by_cases d1 : s / 8 < r
        · refine Or.inl ⟨d1, by omega, by omega, ?_⟩
          by_cases d2 : v < 4 * (r - s / 8) + 3
          · exact Or.inl ⟨d2, by omega⟩
          · exact Or.inr ⟨by omega, by omega⟩
        · by_cases d3 : r < s / 8
          · refine Or.inr (Or.inl ⟨d3, by omega, by omega, ?_⟩)
            by_cases d2 : v < 4 * (s / 8 - r) + 3
            · exact Or.inl ⟨d2, by omega⟩
            · exact Or.inr ⟨by omega, by omega⟩
          · have d4 : s / 8 = r := by omega
            refine Or.inr (Or.inr ⟨d4, n3 d4, ?_⟩)
            by_cases d2 : v < 3
            · exact Or.inl ⟨d2, by omega⟩
            · exact Or.inr ⟨by omega, by omega⟩
    | false =>
      go_enter Try.func7, Try.ntmps7
      go_wp2_with fail
      refine (small_any _).mono ?_
      rintro e' w1 ⟨rfl, hb1⟩
      obtain ⟨R1, z1, b1⟩ := new_kept hb1
      have K1 := row_cells R1
      clear hb1
      go_wp2_with (first
        | (go_at_call 11; refine (right_any _ _ _ _ _ _).mono ?_; rintro e w2 ⟨rfl, hb2⟩; have K2 := cells_kept K1 hb2 z1)
        )
      go_ret
      exact ⟨rfl, b1.trans (hb2.mono b1.size)⟩
  · have hr2 : Rtt.right ⟨s, v, rto, f, has⟩ = false := by simpa using hr
    clear hr
    go_enter Try.func7, Try.ntmps7
    go_wp2_with fail
    refine (small_any _).mono ?_
    rintro e' w1 ⟨rfl, hb1⟩
    obtain ⟨R1, z1, b1⟩ := new_kept hb1
    have K1 := row_cells R1
    clear hb1
    go_wp2_with (first
      | (go_at_call 11; refine (right_any _ _ _ _ _ _).mono ?_; rintro e w2 ⟨rfl, hb2⟩; have K2 := cells_kept K1 hb2 z1)
      )
    go_ret
    exact ⟨rfl, b1.trans (hb2.mono b1.size)⟩

theorem own : ownKnob Try.prog.godebug = none := by kernel_rfl
theorem laid : laidOutB Try.prog = true := by kernel_rfl

set_option maxRecDepth 100000 in
theorem lifted (os : Os) (started : os.Started) (H : Type) (enc : TypeId × Value → H) :
    ReturnsInHanded {} Try.checked os 7 .any (Rows.rttNearSpec.pre6 enc Try.prog Try.f7 Rows.rttNearRow.domain false) (Rows.rttNearSpec.post enc Try.prog Try.f7 false true false false) := by
  refine law_lifted (C := Try.checked) (B := 4) own started (by kernel_rfl) Try.func7
    (ChangeSpec.witness6 (enc := enc) (C := Try.checked) false ⟨#[], #[.agg #[.int .i64 0, .int .i64 0, .int .i64 0, .int .i64 0, .bool false], .int .i64 0], []⟩ 8 (by kernel_rfl) (by kernel_rfl) (by kernel_rfl) (by kernel_rfl))
    rfl rfl Try.underlying4 laid (of_decide_eq_true (by kernel_rfl)) ?_ ?_
  · intro ds hl
    rw [Try.params7] at hl
    match ds, hl with
    | [d0, d1], _ => rfl
  · intro W base args ds ps hval hA hlt hz
    rw [Try.params7] at hA hval
    obtain ⟨v0, vs0, d0, ds0, p0, q0, hargs, rfl, rfl, h0, r0⟩ := trodAll_cons hA
    obtain ⟨v1, vs1, d1, ds1, p1, q1, rfl, rfl, rfl, h1, r1⟩ := trodAll_cons r0
    obtain ⟨rfl, rfl, rfl⟩ := trodAll_nil r1
    obtain rfl : args = #[v0, v1] := by cases args; simp_all
    obtain ⟨s0, v'0, rto0, f0, has0, rfl, ws0, wv0, wr0, wf0⟩ := open_rtt (hval 0 23 v0 rfl rfl) h0
    obtain ⟨a1, rfl, rfl, rfl, w1⟩ := open_int Try.underlying3 (hval 1 3 v1 rfl rfl) h1
    exact walk W s0 v'0 rto0 f0 has0 ws0 wv0 wr0 wf0 a1 w1

theorem over : Rows.rttNearRow.holds Try.pinned (OpenSpec.ofChange Rows.rttNearSpec) :=
  OpenClaim.holds_of_wide 7 Try.f7 rfl rfl rfl rfl rfl rfl rfl ⟨rfl, rfl, rfl, rfl, rfl⟩ rfl rfl rfl rfl rfl (by kernel_rfl) Try.func7 (by kernel_rfl)
    (of_decide_eq_true (by kernel_rfl)) (by unfold Func.isWrapper; first | (rw [if_pos (by decide +kernel)]; kernel_rfl) | (rw [if_neg (by decide +kernel)]; exact ⟨rfl, rfl⟩))
    (fun os started H enc _ => lifted os started H enc)

theorem proved : Rows.RttNearSaid := over
#print axioms proved
end Go.Proofs.Yteojpeldiodbhaa.rttNear
