/- RttTells holds for any Rtt and any time: what the program reckons is the document's own answer. No condition. -/
import Derived.Test.YteojpeldiodbhaaRttOpen
import Derived.Deep.RegionHeld3
namespace Go.Proofs.Yteojpeldiodbhaa.rttTells
open Go.ChangeShapes Go.WideShapes Go.ChangeAt Go.RowKit

theorem keep5 {g : Nat} {a b c d e : Value} {w W W' : World} (h : (W.cell? ⟨g, 0, none⟩ = some a ∧ W.cell? ⟨g, 1, none⟩ = some b ∧ W.cell? ⟨g, 2, none⟩ = some c ∧ W.cell? ⟨g, 3, none⟩ = some d ∧ W.cell? ⟨g, 4, none⟩ = some e) ∧ g < W.heap.size ∧ Below w.heap.size w W) (hb : Below W.heap.size W W') :
    (W'.cell? ⟨g, 0, none⟩ = some a ∧ W'.cell? ⟨g, 1, none⟩ = some b ∧ W'.cell? ⟨g, 2, none⟩ = some c ∧ W'.cell? ⟨g, 3, none⟩ = some d ∧ W'.cell? ⟨g, 4, none⟩ = some e) ∧ g < W'.heap.size ∧ Below w.heap.size w W' := by
  obtain ⟨⟨h0, h1, h2, h3, h4⟩, hg, hw⟩ := h
  have k := fun i => hb.cell (p := ⟨g, i, none⟩) hg
  exact ⟨⟨(k 0).trans h0, (k 1).trans h1, (k 2).trans h2, (k 3).trans h3, (k 4).trans h4⟩, Nat.lt_of_lt_of_le hg hb.size, hw.trans (hb.mono hw.size)⟩

set_option maxHeartbeats 1000000 in
theorem walk (w : World) (s v rto f : Int) (has : Bool) (ws : (Lit.int .i64 s).wf = true) (wv : (Lit.int .i64 v).wf = true) (wr : (Lit.int .i64 rto).wf = true) (wf : (Lit.int .i64 f).wf = true) (r : Int) (wr' : (Lit.int .i64 r).wf = true) :
    Calls Try.prog 3 #[.agg #[.int .i64 s, .int .i64 v, .int .i64 rto, .int .i64 f, .bool has], .int .i64 r] w fun e w' => e = .returned (.bool true) ∧ Below w.heap.size w w' := by
  clear ws wv wr wf wr'
  generalize hx : Rtt.sample ⟨s, v, rto, f, has⟩ r = x
  generalize hy : Rtt.backoff ⟨s, v, rto, f, has⟩ = y
  have Hx := Lib.hid hx
  have Hy := Lib.hid hy
  clear hx hy
  obtain ⟨x1, x2, x3, x4, x5⟩ := x
  obtain ⟨y1, y2, y3, y4, y5⟩ := y
  go_enter Try.func3, Try.ntmps3
  go_wp2_with fail
  refine (small_any _).mono ?_
  rintro e w1 ⟨rfl, hb1⟩
  obtain ⟨R1, z1, b1⟩ := new_kept hb1
  have k0 := row_cells R1 0
  have k1 := row_cells R1 1
  have k2 := row_cells R1 2
  have k3 := row_cells R1 3
  have k4 := row_cells R1 4
  simp at k0 k1 k2 k3 k4
  clear R1 hb1
  go_wp2_with fail
  go_region_held3 (fun W => (W.cell? ⟨w.heap.size, 0, none⟩ = some (.int .i64 s) ∧ W.cell? ⟨w.heap.size, 1, none⟩ = some (.int .i64 v) ∧ W.cell? ⟨w.heap.size, 2, none⟩ = some (.int .i64 rto) ∧ W.cell? ⟨w.heap.size, 3, none⟩ = some (.int .i64 f) ∧ W.cell? ⟨w.heap.size, 4, none⟩ = some (.bool has)) ∧ w.heap.size < W.heap.size ∧ Below w.heap.size w W)
    (first | exact ⟨⟨k0, k1, k2, k3, k4⟩, z1, b1.drew⟩ | exact keep5 (by assumption) hb | exact keep5 ⟨⟨by assumption, by assumption, by assumption, by assumption, by assumption⟩, by assumption, by assumption⟩ hb | go_keep)
    (first
      | (go_at_call 11; refine (right_any _ _ _ _ _ _).mono ?_; rintro e w' ⟨rfl, hb⟩)
      | (go_at_call 12; refine (rright_any _ _ _ _ _ _).mono ?_; rintro e w' ⟨rfl, hb⟩)
      | (go_at_call 13; refine (sample_to Hx.out _).mono ?_; rintro e w' ⟨rfl, hb⟩)
      | (go_at_call 14; refine (rsample_to Hx.out _).mono ?_; rintro e w' ⟨rfl, hb⟩)
      | (go_at_call 15; refine (backoff_to Hy.out _).mono ?_; rintro e w' ⟨rfl, hb⟩)
      | (go_at_call 16; refine (rbackoff_to Hy.out _).mono ?_; rintro e w' ⟨rfl, hb⟩))
  all_goals (go_wp2; go_ret; rename_i hH; exact ⟨rfl, hH.2.2⟩)

theorem own : ownKnob Try.prog.godebug = none := by kernel_rfl
theorem laid : laidOutB Try.prog = true := by kernel_rfl

set_option maxRecDepth 100000 in
theorem lifted (os : Os) (started : os.Started) (H : Type) (enc : TypeId × Value → H) :
    ReturnsInHanded {} Try.checked os 3 .any (Rows.rttTellsSpec.pre6 enc Try.prog Try.f3 Rows.rttTellsRow.domain false) (Rows.rttTellsSpec.post enc Try.prog Try.f3 false true false false) := by
  refine law_lifted (C := Try.checked) (B := 4) own started (by kernel_rfl) Try.func3
    (ChangeSpec.witness6 (enc := enc) (C := Try.checked) false ⟨#[], #[.agg #[.int .i64 0, .int .i64 0, .int .i64 0, .int .i64 0, .bool false], .int .i64 0], []⟩ 8 (by kernel_rfl) (by kernel_rfl) (by kernel_rfl) (by kernel_rfl))
    rfl rfl Try.underlying4 laid (of_decide_eq_true (by kernel_rfl)) ?_ ?_
  · intro ds hl
    rw [Try.params3] at hl
    match ds, hl with
    | [d0, d1], _ => rfl
  · intro W base args ds ps hval hA hlt hz
    rw [Try.params3] at hA hval
    obtain ⟨v0, vs0, d0, ds0, p0, q0, hargs, rfl, rfl, h0, r0⟩ := trodAll_cons hA
    obtain ⟨v1, vs1, d1, ds1, p1, q1, rfl, rfl, rfl, h1, r1⟩ := trodAll_cons r0
    obtain ⟨rfl, rfl, rfl⟩ := trodAll_nil r1
    obtain rfl : args = #[v0, v1] := by cases args; simp_all
    obtain ⟨s0, v'0, rto0, f0, has0, rfl, ws0, wv0, wr0, wf0⟩ := open_rtt (hval 0 23 v0 rfl rfl) h0
    obtain ⟨a1, rfl, rfl, rfl, w1⟩ := open_int Try.underlying3 (hval 1 3 v1 rfl rfl) h1
    exact walk W s0 v'0 rto0 f0 has0 ws0 wv0 wr0 wf0 a1 w1

theorem over : Rows.rttTellsRow.holds Try.pinned (OpenSpec.ofChange Rows.rttTellsSpec) :=
  OpenClaim.holds_of_wide 3 Try.f3 rfl rfl rfl rfl rfl rfl rfl ⟨rfl, rfl, rfl, rfl, rfl⟩ rfl rfl rfl rfl rfl (by kernel_rfl) Try.func3 (by kernel_rfl)
    (of_decide_eq_true (by kernel_rfl)) (by unfold Func.isWrapper; first | (rw [if_pos (by decide +kernel)]; kernel_rfl) | (rw [if_neg (by decide +kernel)]; exact ⟨rfl, rfl⟩))
    (fun os started H enc _ => lifted os started H enc)

theorem proved : Rows.RttTellsSaid := over
#print axioms proved
end Go.Proofs.Yteojpeldiodbhaa.rttTells
