/- RttWaits holds for any Rtt and any time: enough failures come to the longest wait, and one answer ends that. No condition. -/
import Derived.Test.YteojpeldiodbhaaRttOpen
import Derived.Test.YteojpeldiodbhaaRttMath2
namespace Go.Proofs.Yteojpeldiodbhaa.rttWaits
open Go.ChangeShapes Go.WideShapes Go.ChangeAt Go.RowKit

def At (w : World) (g : Nat) (x : Rtt) (wr : World) : Prop := wr.heap[g]? = some (.cells #[.int .i64 x.s, .int .i64 x.v, .int .i64 x.rto, .int .i64 x.fails, .bool x.has] 23) ∧ w.heap.size ≤ g ∧ Below w.heap.size w wr

set_option maxHeartbeats 1000000 in
theorem walk (w : World) (s v rto f : Int) (has : Bool) (ws : (Lit.int .i64 s).wf = true) (wv : (Lit.int .i64 v).wf = true) (wr : (Lit.int .i64 rto).wf = true) (wf : (Lit.int .i64 f).wf = true) (r : Int) (wr' : (Lit.int .i64 r).wf = true) :
    Calls Try.prog 6 #[.agg #[.int .i64 s, .int .i64 v, .int .i64 rto, .int .i64 f, .bool has], .int .i64 r] w fun e w' => e = .returned (.bool true) ∧ Below w.heap.size w w' := by
  clear ws wv wr wf wr'
  have E0 := Lib.hid (show Rtt.backs ⟨s, v, rto, f, has⟩ 0 = ⟨s, v, rto, f, has⟩ from rfl)
  generalize he : (⟨s, v, rto, f, has⟩ : Rtt) = e at E0
  have He := Lib.hid he
  clear he
  go_enter Try.func6, Try.ntmps6
  go_wp2_with fail
  refine (small_any _).mono ?_
  rintro e' w1 ⟨rfl, hb1⟩
  obtain ⟨R1, z1, b1⟩ := new_kept hb1
  go_wp2_with fail
  go_loopw [6] (fun i wr => ∃ (k : Nat), k ≤ 6 ∧ i = .int .i64 k ∧ At w w.heap.size (Rtt.backs e k) wr) (fun i _ => 6 - (intOf i).toNat)
  case atStart => exact ⟨0, Nat.zero_le _, rfl, by rw [E0.out, ← He.out]; exact R1, Nat.le_refl _, b1⟩
  case round =>
    obtain ⟨k, hk, rfl, hA⟩ := hrel
    clear hb1 R1 b1 z1
    by_cases hk6 : k < 6
    · have Hy := Lib.hid (show Rtt.backoff (Rtt.backs e k) = Rtt.backs e (k + 1) from rfl)
      have HA := Lib.hid hA
      clear hA
      generalize Rtt.backs e k = x at HA Hy
      have HY := Lib.hid (show Rtt.backs e (k + 1) = Rtt.backs e (k + 1) from rfl)
      generalize hy : Rtt.backs e (k + 1) = y at Hy
      have Hyy := Lib.hid hy
      clear hy HY
      obtain ⟨x1, x2, x3, x4, x5⟩ := x
      obtain ⟨y1, y2, y3, y4, y5⟩ := y
      obtain ⟨R, hg, B⟩ := HA.out
      have hlt := row_lt R
      have K := row_cells R
      go_wp2_with (first
        | (go_at_call 15; refine (backoff_to Hy.out _).mono ?_; rintro e w3 ⟨rfl, hb3⟩; have R3 := row_kept R hb3 hlt; obtain ⟨s0, s1, c0, c1, f0, f1, z1⟩ := rows1 R3)
        )
      go_roundw
      case rel => exact ⟨k + 1, by omega, by go_num, by rw [Hyy.out]; exact ⟨row_written R3, hg, setRow_below (B.trans (hb3.mono B.size)) hg⟩⟩
      case measure => simp [intOf]; omega
    · obtain rfl : k = 6 := by omega
      obtain ⟨q1, q2, q3⟩ := Rtt.six e
      have hs6 := Rtt.six_sample e r
      have hsf := Rtt.sample_fails (Rtt.backs e 6) r
      generalize Rtt.backs e 6 = y at q1 q2 q3 hs6 hsf hA
      generalize hx : Rtt.sample y r = x at hs6 hsf
      have Hx := Lib.hid hx
      clear hx
      obtain ⟨y1, y2, y3, y4, y5⟩ := y
      obtain ⟨x1, x2, x3, x4, x5⟩ := x
      simp only at q1 q2 q3 hs6 hsf
      obtain ⟨rfl, rfl⟩ := hsf
      subst q1
      obtain ⟨R, hg, B⟩ := hA
      have hlt := row_lt R
      have K := row_cells R
      clear hk hk6
      cases y5 with
      | true =>
        clear hs6
        go_wp2_with (first
          | (go_at_call 13; refine (sample_to Hx.out _).mono ?_; rintro e w3 ⟨rfl, hb3⟩; have R3 := row_kept R hb3 hlt; have K3 := row_cells R3; have z3 := lt_kept hlt hb3)
          )
        go_ret
        exact ⟨rfl, (B.trans (hb3.mono B.size)).alloc (B.trans (hb3.mono B.size)).size _⟩
      | false =>
        by_cases c1 : r < 0
        · clear hs6
          go_wp2_with (first
            | (go_at_call 13; refine (sample_to Hx.out _).mono ?_; rintro e w3 ⟨rfl, hb3⟩; have R3 := row_kept R hb3 hlt; have K3 := row_cells R3; have z3 := lt_kept hlt hb3)
            )
          go_ret
          exact ⟨rfl, (B.trans (hb3.mono B.size)).alloc (B.trans (hb3.mono B.size)).size _⟩
        · by_cases c2 : 10 < r
          · clear hs6
            go_wp2_with (first
              | (go_at_call 13; refine (sample_to Hx.out _).mono ?_; rintro e w3 ⟨rfl, hb3⟩; have R3 := row_kept R hb3 hlt; have K3 := row_cells R3; have z3 := lt_kept hlt hb3)
              )
            go_ret
            exact ⟨rfl, (B.trans (hb3.mono B.size)).alloc (B.trans (hb3.mono B.size)).size _⟩
          · have hs7 := hs6 (by omega) (by omega) rfl
            clear hs6
            by_cases c3 : r = 0
            · subst c3
              obtain rfl : x3 = 2 := by omega
              clear hs7
              go_wp2_with (first
                | (go_at_call 13; refine (sample_to Hx.out _).mono ?_; rintro e w3 ⟨rfl, hb3⟩; have R3 := row_kept R hb3 hlt; have K3 := row_cells R3; have z3 := lt_kept hlt hb3)
                )
              go_ret
              exact ⟨rfl, (B.trans (hb3.mono B.size)).alloc (B.trans (hb3.mono B.size)).size _⟩
            · obtain rfl : x3 = r + 2 * r := by omega
              clear hs7
              have c4 : 1 ≤ r := by omega
              go_wp2_with (first
                | (go_at_call 13; refine (sample_to Hx.out _).mono ?_; rintro e w3 ⟨rfl, hb3⟩; have R3 := row_kept R hb3 hlt; have K3 := row_cells R3; have z3 := lt_kept hlt hb3)
                )
              go_ret
              exact ⟨rfl, (B.trans (hb3.mono B.size)).alloc (B.trans (hb3.mono B.size)).size _⟩

theorem own : ownKnob Try.prog.godebug = none := by kernel_rfl
theorem laid : laidOutB Try.prog = true := by kernel_rfl

set_option maxRecDepth 100000 in
theorem lifted (os : Os) (started : os.Started) (H : Type) (enc : TypeId × Value → H) :
    ReturnsInHanded {} Try.checked os 6 .any (Rows.rttWaitsSpec.pre6 enc Try.prog Try.f6 Rows.rttWaitsRow.domain false) (Rows.rttWaitsSpec.post enc Try.prog Try.f6 false true false false) := by
  refine law_lifted (C := Try.checked) (B := 4) own started (by kernel_rfl) Try.func6
    (ChangeSpec.witness6 (enc := enc) (C := Try.checked) false ⟨#[], #[.agg #[.int .i64 0, .int .i64 0, .int .i64 0, .int .i64 0, .bool false], .int .i64 0], []⟩ 8 (by kernel_rfl) (by kernel_rfl) (by kernel_rfl) (by kernel_rfl))
    rfl rfl Try.underlying4 laid (of_decide_eq_true (by kernel_rfl)) ?_ ?_
  · intro ds hl
    rw [Try.params6] at hl
    match ds, hl with
    | [d0, d1], _ => rfl
  · intro W base args ds ps hval hA hlt hz
    rw [Try.params6] at hA hval
    obtain ⟨v0, vs0, d0, ds0, p0, q0, hargs, rfl, rfl, h0, r0⟩ := trodAll_cons hA
    obtain ⟨v1, vs1, d1, ds1, p1, q1, rfl, rfl, rfl, h1, r1⟩ := trodAll_cons r0
    obtain ⟨rfl, rfl, rfl⟩ := trodAll_nil r1
    obtain rfl : args = #[v0, v1] := by cases args; simp_all
    obtain ⟨s0, v'0, rto0, f0, has0, rfl, ws0, wv0, wr0, wf0⟩ := open_rtt (hval 0 23 v0 rfl rfl) h0
    obtain ⟨a1, rfl, rfl, rfl, w1⟩ := open_int Try.underlying3 (hval 1 3 v1 rfl rfl) h1
    exact walk W s0 v'0 rto0 f0 has0 ws0 wv0 wr0 wf0 a1 w1

theorem over : Rows.rttWaitsRow.holds Try.pinned (OpenSpec.ofChange Rows.rttWaitsSpec) :=
  OpenClaim.holds_of_wide 6 Try.f6 rfl rfl rfl rfl rfl rfl rfl ⟨rfl, rfl, rfl, rfl, rfl⟩ rfl rfl rfl rfl rfl (by kernel_rfl) Try.func6 (by kernel_rfl)
    (of_decide_eq_true (by kernel_rfl)) (by unfold Func.isWrapper; first | (rw [if_pos (by decide +kernel)]; kernel_rfl) | (rw [if_neg (by decide +kernel)]; exact ⟨rfl, rfl⟩))
    (fun os started H enc _ => lifted os started H enc)

theorem proved : Rows.RttWaitsSaid := over
#print axioms proved
end Go.Proofs.Yteojpeldiodbhaa.rttWaits
