/- RttBad holds for any Rtt and any time: what is not right counts as nothing known, and times beyond 0 to 4096 as these. No condition. -/
import Derived.Test.YteojpeldiodbhaaRttOpen
import Derived.Test.YteojpeldiodbhaaRttMath2
import Derived.Deep.RegionHeld3
namespace Go.Proofs.Yteojpeldiodbhaa.rttBad
open Go.ChangeShapes Go.WideShapes Go.ChangeAt Go.RowKit

theorem same_sample (e : Rtt) (r : Int) : Rtt.sample e.or (Rtt.cut r) = Rtt.sample e r := by unfold Rtt.sample; rw [Rtt.or_or, Rtt.cut_cut]
theorem same_backoff (e : Rtt) : Rtt.backoff e.or = Rtt.backoff e := by unfold Rtt.backoff; rw [Rtt.or_or]
theorem keep10 {g0 g1 : Nat} {a0 a1 a2 a3 a4 b0 b1 b2 b3 b4 : Value} {w W W' : World} (h : (W.cell? ⟨g0, 0, none⟩ = some a0 ∧ W.cell? ⟨g0, 1, none⟩ = some a1 ∧ W.cell? ⟨g0, 2, none⟩ = some a2 ∧ W.cell? ⟨g0, 3, none⟩ = some a3 ∧ W.cell? ⟨g0, 4, none⟩ = some a4) ∧ (W.cell? ⟨g1, 0, none⟩ = some b0 ∧ W.cell? ⟨g1, 1, none⟩ = some b1 ∧ W.cell? ⟨g1, 2, none⟩ = some b2 ∧ W.cell? ⟨g1, 3, none⟩ = some b3 ∧ W.cell? ⟨g1, 4, none⟩ = some b4) ∧ g0 < W.heap.size ∧ g1 < W.heap.size ∧ Below w.heap.size w W) (hb : Below W.heap.size W W') :
    (W'.cell? ⟨g0, 0, none⟩ = some a0 ∧ W'.cell? ⟨g0, 1, none⟩ = some a1 ∧ W'.cell? ⟨g0, 2, none⟩ = some a2 ∧ W'.cell? ⟨g0, 3, none⟩ = some a3 ∧ W'.cell? ⟨g0, 4, none⟩ = some a4) ∧ (W'.cell? ⟨g1, 0, none⟩ = some b0 ∧ W'.cell? ⟨g1, 1, none⟩ = some b1 ∧ W'.cell? ⟨g1, 2, none⟩ = some b2 ∧ W'.cell? ⟨g1, 3, none⟩ = some b3 ∧ W'.cell? ⟨g1, 4, none⟩ = some b4) ∧ g0 < W'.heap.size ∧ g1 < W'.heap.size ∧ Below w.heap.size w W' := by
  obtain ⟨⟨h0, h1, h2, h3, h4⟩, ⟨i0, i1, i2, i3, i4⟩, hg, hg', hw⟩ := h
  have k := fun i => hb.cell (p := ⟨g0, i, none⟩) hg
  have k' := fun i => hb.cell (p := ⟨g1, i, none⟩) hg'
  exact ⟨⟨(k 0).trans h0, (k 1).trans h1, (k 2).trans h2, (k 3).trans h3, (k 4).trans h4⟩, ⟨(k' 0).trans i0, (k' 1).trans i1, (k' 2).trans i2, (k' 3).trans i3, (k' 4).trans i4⟩, Nat.lt_of_lt_of_le hg hb.size, Nat.lt_of_lt_of_le hg' hb.size, hw.trans (hb.mono hw.size)⟩

set_option maxHeartbeats 4000000 in
theorem walk (w : World) (s v rto f : Int) (has : Bool) (ws : (Lit.int .i64 s).wf = true) (wv : (Lit.int .i64 v).wf = true) (wr : (Lit.int .i64 rto).wf = true) (wf : (Lit.int .i64 f).wf = true) (r : Int) (wr' : (Lit.int .i64 r).wf = true) :
    Calls Try.prog 8 #[.agg #[.int .i64 s, .int .i64 v, .int .i64 rto, .int .i64 f, .bool has], .int .i64 r] w fun e w' => e = .returned (.bool true) ∧ Below w.heap.size w w' := by
  clear ws wv wr wf wr'
  have hx0 : ∀ r', Rtt.cut r' = Rtt.cut r → Rtt.sample ⟨s, v, rto, f, has⟩ r' = Rtt.sample ⟨s, v, rto, f, has⟩ r := fun r' h => by rw [← same_sample _ r', h, same_sample]
  have hx1 : ∀ r', Rtt.cut r' = Rtt.cut r → Rtt.sample (Rtt.or ⟨s, v, rto, f, has⟩) r' = Rtt.sample ⟨s, v, rto, f, has⟩ r := fun r' h => by rw [← same_sample (Rtt.or _) r', Rtt.or_or, h, same_sample]
  have hc : r < 0 ∨ 4096 < r ∨ r = 0 ∨ (0 < r ∧ r ≤ 4096) := by omega
  have hy2 := same_backoff ⟨s, v, rto, f, has⟩
  generalize Rtt.sample ⟨s, v, rto, f, has⟩ r = x at hx0 hx1
  generalize hy : Rtt.backoff ⟨s, v, rto, f, has⟩ = y at hy2
  obtain ⟨x1, x2, x3, x4, x5⟩ := x
  obtain ⟨y1, y2, y3, y4, y5⟩ := y
  by_cases hr : Rtt.right ⟨s, v, rto, f, has⟩ = true
  · rw [Rtt.or_of _ hr] at hx1 hy2
    have Hx := Lib.hid hx0
    have Hx2 := Lib.hid hx1
    have Hy := Lib.hid hy
    have Hy2 := Lib.hid hy2
    clear hx0 hx1 hy hy2
    rcases hc with c | c | rfl | ⟨c, c'⟩
    all_goals
      go_enter Try.func8, Try.ntmps8
      go_wp2_with fail
      refine (small_any _).mono ?_
      rintro e' w1 ⟨rfl, hb1⟩
      obtain ⟨R1, z1, b1⟩ := new_kept hb1
      have K1 := row_cells R1
      clear hb1
      go_wp2_with fail
      refine (right_any _ _ _ _ _ _).mono ?_
      rintro e w2 ⟨rfl, hb2⟩
      obtain ⟨Rs, zs, b2⟩ := new_kept hb2
      have Ke := row_cells (row_kept R1 b2 z1)
      have Ks := row_cells Rs
      have ze := lt_kept z1 b2
      have B2 := b1.trans (b2.mono b1.size)
      clear K1 R1 hb2 b1 b2 Rs
      go_wp2_with fail
      go_region_held3 (fun W => (W.cell? ⟨w.heap.size, 0, none⟩ = some (.int .i64 s) ∧ W.cell? ⟨w.heap.size, 1, none⟩ = some (.int .i64 v) ∧ W.cell? ⟨w.heap.size, 2, none⟩ = some (.int .i64 rto) ∧ W.cell? ⟨w.heap.size, 3, none⟩ = some (.int .i64 f) ∧ W.cell? ⟨w.heap.size, 4, none⟩ = some (.bool has)) ∧ (W.cell? ⟨w1.heap.size, 0, none⟩ = some (.int .i64 s) ∧ W.cell? ⟨w1.heap.size, 1, none⟩ = some (.int .i64 v) ∧ W.cell? ⟨w1.heap.size, 2, none⟩ = some (.int .i64 rto) ∧ W.cell? ⟨w1.heap.size, 3, none⟩ = some (.int .i64 f) ∧ W.cell? ⟨w1.heap.size, 4, none⟩ = some (.bool has)) ∧ w.heap.size < W.heap.size ∧ w1.heap.size < W.heap.size ∧ Below w.heap.size w W)
        (first | exact ⟨⟨Ke 0, Ke 1, Ke 2, Ke 3, Ke 4⟩, ⟨Ks 0, Ks 1, Ks 2, Ks 3, Ks 4⟩, ze, zs, B2.drew⟩ | exact keep10 (by assumption) hb | go_keep)
        (first
          | (go_at_call 13; with_reducible refine (sample_to (Hx.out _ (by unfold Rtt.cut; (repeat' split) <;> omega)) _).mono ?_; rintro e w' ⟨rfl, hb⟩)
          | (go_at_call 13; with_reducible refine (sample_to (Hx2.out _ (by unfold Rtt.cut; (repeat' split) <;> omega)) _).mono ?_; rintro e w' ⟨rfl, hb⟩)
          | (go_at_call 15; with_reducible refine (backoff_to Hy.out _).mono ?_; rintro e w' ⟨rfl, hb⟩)
          | (go_at_call 15; with_reducible refine (backoff_to Hy2.out _).mono ?_; rintro e w' ⟨rfl, hb⟩)
          | (go_at_call 13; trace_state; fail))
      all_goals (go_wp2; go_ret; rename_i hH; exact ⟨rfl, hH.2.2.2.2⟩)
  · have hr2 : Rtt.right ⟨s, v, rto, f, has⟩ = false := by simpa using hr
    rw [Rtt.or_not _ hr2] at hx1 hy2
    unfold Rtt.start at hx1 hy2
    have Hx := Lib.hid hx0
    have Hx2 := Lib.hid hx1
    have Hy := Lib.hid hy
    have Hy2 := Lib.hid hy2
    clear hx0 hx1 hy hy2 hr
    rcases hc with c | c | rfl | ⟨c, c'⟩
    all_goals
      go_enter Try.func8, Try.ntmps8
      go_wp2_with fail
      refine (small_any _).mono ?_
      rintro e' w1 ⟨rfl, hb1⟩
      obtain ⟨R1, z1, b1⟩ := new_kept hb1
      have K1 := row_cells R1
      clear hb1
      go_wp2_with fail
      refine (right_any _ _ _ _ _ _).mono ?_
      rintro e w2 ⟨rfl, hb2⟩
      obtain ⟨Rs, zs, b2⟩ := new_kept hb2
      have Re := row_kept R1 b2 z1
      have ze := lt_kept z1 b2
      have B2 := b1.trans (b2.mono b1.size)
      have gne : w.heap.size ≠ w1.heap.size := by omega
      clear K1 R1 hb2 b1 b2
      go_wp2_with fail
      refine (start_any _).mono ?_
      rintro e w3 ⟨rfl, hb3⟩
      have Rs3 := row_kept Rs hb3 zs
      have Re3 := row_kept Re hb3 ze
      have zs3 := lt_kept zs hb3
      have ze3 := lt_kept ze hb3
      have B3 := B2.trans (hb3.mono B2.size)
      obtain ⟨s0, s1, c0, c1, f0, f1, q1⟩ := rows1 Rs3
      have Ke : ∀ ds i, (setRow w3 w1.heap.size 23 ds).cell? ⟨w.heap.size, i, none⟩ = #[Value.int .i64 s, .int .i64 v, .int .i64 rto, .int .i64 f, .bool has][i]? := fun ds => row_cells ((setRow_far gne).trans Re3)
      have q1g : ∀ ds, w.heap.size < (setRow w3 w1.heap.size 23 ds).heap.size := fun ds => by rw [setRow_size]; exact ze3
      have q2g : ∀ ds, w1.heap.size < (setRow w3 w1.heap.size 23 ds).heap.size := fun ds => by rw [setRow_size]; exact zs3
      have q3g : ∀ ds, Below w.heap.size w (setRow w3 w1.heap.size 23 ds) := fun ds => setRow_below B3 (by omega)
      clear Re Rs Rs3 Re3 hb3 B2 B3 zs ze
      go_wp2_with fail
      go_region_held3 (fun W => (W.cell? ⟨w.heap.size, 0, none⟩ = some (.int .i64 s) ∧ W.cell? ⟨w.heap.size, 1, none⟩ = some (.int .i64 v) ∧ W.cell? ⟨w.heap.size, 2, none⟩ = some (.int .i64 rto) ∧ W.cell? ⟨w.heap.size, 3, none⟩ = some (.int .i64 f) ∧ W.cell? ⟨w.heap.size, 4, none⟩ = some (.bool has)) ∧ (W.cell? ⟨w1.heap.size, 0, none⟩ = some (.int .i64 0) ∧ W.cell? ⟨w1.heap.size, 1, none⟩ = some (.int .i64 0) ∧ W.cell? ⟨w1.heap.size, 2, none⟩ = some (.int .i64 8) ∧ W.cell? ⟨w1.heap.size, 3, none⟩ = some (.int .i64 0) ∧ W.cell? ⟨w1.heap.size, 4, none⟩ = some (.bool false)) ∧ w.heap.size < W.heap.size ∧ w1.heap.size < W.heap.size ∧ Below w.heap.size w W)
        (first | exact ⟨⟨Ke _ 0, Ke _ 1, Ke _ 2, Ke _ 3, Ke _ 4⟩, ⟨c1 _ 0, c1 _ 1, c1 _ 2, c1 _ 3, c1 _ 4⟩, q1g _, q2g _, (q3g _).drew⟩ | exact keep10 (by assumption) hb | go_keep)
        (first
          | (go_at_call 13; with_reducible refine (sample_to (Hx.out _ (by unfold Rtt.cut; (repeat' split) <;> omega)) _).mono ?_; rintro e w' ⟨rfl, hb⟩)
          | (go_at_call 13; with_reducible refine (sample_to (Hx2.out _ (by unfold Rtt.cut; (repeat' split) <;> omega)) _).mono ?_; rintro e w' ⟨rfl, hb⟩)
          | (go_at_call 15; with_reducible refine (backoff_to Hy.out _).mono ?_; rintro e w' ⟨rfl, hb⟩)
          | (go_at_call 15; with_reducible refine (backoff_to Hy2.out _).mono ?_; rintro e w' ⟨rfl, hb⟩)
          | (go_at_call 13; trace_state; fail))
      all_goals (go_wp2; go_ret; rename_i hH; exact ⟨rfl, hH.2.2.2.2⟩)

theorem own : ownKnob Try.prog.godebug = none := by kernel_rfl
theorem laid : laidOutB Try.prog = true := by kernel_rfl

set_option maxRecDepth 100000 in
theorem lifted (os : Os) (started : os.Started) (H : Type) (enc : TypeId × Value → H) :
    ReturnsInHanded {} Try.checked os 8 .any (Rows.rttBadSpec.pre6 enc Try.prog Try.f8 Rows.rttBadRow.domain false) (Rows.rttBadSpec.post enc Try.prog Try.f8 false true false false) := by
  refine law_lifted (C := Try.checked) (B := 4) own started (by kernel_rfl) Try.func8
    (ChangeSpec.witness6 (enc := enc) (C := Try.checked) false ⟨#[], #[.agg #[.int .i64 0, .int .i64 0, .int .i64 0, .int .i64 0, .bool false], .int .i64 0], []⟩ 8 (by kernel_rfl) (by kernel_rfl) (by kernel_rfl) (by kernel_rfl))
    rfl rfl Try.underlying4 laid (of_decide_eq_true (by kernel_rfl)) ?_ ?_
  · intro ds hl
    rw [Try.params8] at hl
    match ds, hl with
    | [d0, d1], _ => rfl
  · intro W base args ds ps hval hA hlt hz
    rw [Try.params8] at hA hval
    obtain ⟨v0, vs0, d0, ds0, p0, q0, hargs, rfl, rfl, h0, r0⟩ := trodAll_cons hA
    obtain ⟨v1, vs1, d1, ds1, p1, q1, rfl, rfl, rfl, h1, r1⟩ := trodAll_cons r0
    obtain ⟨rfl, rfl, rfl⟩ := trodAll_nil r1
    obtain rfl : args = #[v0, v1] := by cases args; simp_all
    obtain ⟨s0, v'0, rto0, f0, has0, rfl, ws0, wv0, wr0, wf0⟩ := open_rtt (hval 0 23 v0 rfl rfl) h0
    obtain ⟨a1, rfl, rfl, rfl, w1⟩ := open_int Try.underlying3 (hval 1 3 v1 rfl rfl) h1
    exact walk W s0 v'0 rto0 f0 has0 ws0 wv0 wr0 wf0 a1 w1

theorem over : Rows.rttBadRow.holds Try.pinned (OpenSpec.ofChange Rows.rttBadSpec) :=
  OpenClaim.holds_of_wide 8 Try.f8 rfl rfl rfl rfl rfl rfl rfl ⟨rfl, rfl, rfl, rfl, rfl⟩ rfl rfl rfl rfl rfl (by kernel_rfl) Try.func8 (by kernel_rfl)
    (of_decide_eq_true (by kernel_rfl)) (by unfold Func.isWrapper; first | (rw [if_pos (by decide +kernel)]; kernel_rfl) | (rw [if_neg (by decide +kernel)]; exact ⟨rfl, rfl⟩))
    (fun os started H enc _ => lifted os started H enc)

theorem proved : Rows.RttBadSaid := over
#print axioms proved
end Go.Proofs.Yteojpeldiodbhaa.rttBad
