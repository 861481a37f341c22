/- RttLike holds for any time and however often: of like times the smooth one is that, and how they differ never rises. No condition. -/
import Derived.Test.YteojpeldiodbhaaRttOpen
import Derived.Test.YteojpeldiodbhaaRttMath2
namespace Go.Proofs.Yteojpeldiodbhaa.rttLike
open Go.ChangeShapes Go.WideShapes Go.ChangeAt Go.RowKit

/-- What stands at each round's head. -/
def Inv (r : Int) (k : Nat) (x : Rtt) : Prop := x.Ok ∧ ((k = 0 ∧ x = Rtt.start) ∨ (0 < k ∧ x.has = true ∧ x.s = 8 * r))
def At (w : World) (g : Nat) (x : Rtt) (wr : World) : Prop := wr.heap[g]? = some (.cells #[.int .i64 x.s, .int .i64 x.v, .int .i64 x.rto, .int .i64 x.fails, .bool x.has] 23) ∧ w.heap.size ≤ g ∧ Below w.heap.size w wr

set_option maxHeartbeats 1000000 in
theorem walk (w : World) (r : Int) (wr' : (Lit.int .i64 r).wf = true) (n : Int) (wn : (Lit.int .i64 n).wf = true) :
    Calls Try.prog 5 #[.int .i64 r, .int .i64 n] w fun e w' => e = .returned (.bool true) ∧ Below w.heap.size w w' := by
  clear wr' wn
  by_cases h : r < 0 ∨ 4096 < r ∨ n < 1 ∨ 200 < n
  · rcases h with h | h | h | h
    all_goals
      go_enter Try.func5, Try.ntmps5
      go_wp2_with (first
        | (go_at_call 10; refine (small_any _).mono ?_; rintro e w' ⟨rfl, hb⟩)
        )
      all_goals (first | (go_ret; exact ⟨rfl, hb⟩) | (exfalso; omega))
  · have g1 : 0 ≤ r := by omega
    have g2 : r ≤ 4096 := by omega
    have g3 : 1 ≤ n := by omega
    have g4 : n ≤ 200 := by omega
    clear h
    obtain ⟨m, rfl⟩ := Int.eq_ofNat_of_zero_le (show 0 ≤ n by omega)
    go_enter Try.func5, Try.ntmps5
    go_wp2_with (first
      | (go_at_call 10; refine (small_any _).mono ?_; rintro e w1 ⟨rfl, hb1⟩)
      | (go_at_call 17; refine (start_any _).mono ?_; rintro e w2 ⟨rfl, hb2⟩)
      )
    go_loopw [7] (fun i wr => ∃ (k : Nat) (x : Rtt), k ≤ m ∧ i = .int .i64 k ∧ Inv r k x ∧ At w w2.heap.size x wr) (fun i _ => m - (intOf i).toNat)
    case atStart => exact ⟨0, Rtt.start, Nat.zero_le _, rfl, ⟨Rtt.start_ok, Or.inl ⟨rfl, rfl⟩⟩, (MapKept.heap_alloc _ _).1, (hb1.trans (hb2.mono hb1.size)).size, (hb1.trans (hb2.mono hb1.size)).alloc (hb1.trans (hb2.mono hb1.size)).size _⟩
    case round =>
      obtain ⟨k, x, hk, rfl, hI, hA⟩ := hrel
      obtain ⟨R, hg, B⟩ := hA
      have hlt := row_lt R
      by_cases hkm : k < m
      · have hstep : (Rtt.sample x r).Ok ∧ (Rtt.sample x r).s = 8 * r ∧ (Rtt.sample x r).has = true ∧ (0 < k → (Rtt.sample x r).v ≤ x.v) := by
          refine ⟨Rtt.sample_ok x r, ?_⟩
          rcases hI.2 with ⟨rfl, rfl⟩ | ⟨h0, h1, h2⟩
          · have := Rtt.first_like r g1 g2
            exact ⟨this.1, this.2, fun h => absurd h (by omega)⟩
          · have := Rtt.more_like x r g1 g2 hI.1 h1 h2
            exact ⟨this.1, this.2.1, fun _ => this.2.2⟩
        clear hI
        obtain ⟨x1, x2, x3, x4, x5⟩ := x
        generalize hy : Rtt.sample ⟨x1, x2, x3, x4, x5⟩ r = y at hstep
        have Hy := Lib.hid hy
        clear hy
        obtain ⟨y1, y2, y3, y4, y5⟩ := y
        obtain ⟨ho, hs, hh, hv⟩ := hstep
        simp only at hs hh hv
        subst hs; subst hh
        have HO := Lib.hid ho
        have K := row_cells R
        clear ho
        by_cases h0 : 0 < k
        · have hv' := hv h0
          clear hv
          go_wp2_with (first
            | (go_at_call 13; refine (sample_to Hy.out _).mono ?_; rintro e w3 ⟨rfl, hb3⟩; have R3 := row_kept R hb3 hlt; obtain ⟨s0, s1, c0, c1, f0, f1, z1⟩ := rows1 R3)
            )
          go_roundw
          case rel => exact ⟨k + 1, ⟨8 * r, y2, y3, y4, true⟩, by omega, by go_num, ⟨HO.out, Or.inr ⟨by omega, rfl, rfl⟩⟩, row_written R3, hg, setRow_below (B.trans (hb3.mono B.size)) hg⟩
          case measure => simp [intOf]; omega
        · have hv' : decide ((0 : Int) < k) = false := decide_eq_false (by omega)
          clear hv
          go_wp2_with (first
            | (go_at_call 13; refine (sample_to Hy.out _).mono ?_; rintro e w3 ⟨rfl, hb3⟩; have R3 := row_kept R hb3 hlt; obtain ⟨s0, s1, c0, c1, f0, f1, z1⟩ := rows1 R3)
            )
          go_roundw
          case rel => exact ⟨k + 1, ⟨8 * r, y2, y3, y4, true⟩, by omega, by go_num, ⟨HO.out, Or.inr ⟨by omega, rfl, rfl⟩⟩, row_written R3, hg, setRow_below (B.trans (hb3.mono B.size)) hg⟩
          case measure => simp [intOf]; omega
      · obtain rfl : k = m := by omega
        go_wp2
        go_ret
        exact ⟨rfl, B⟩

theorem own : ownKnob Try.prog.godebug = none := by kernel_rfl
theorem laid : laidOutB Try.prog = true := by kernel_rfl

set_option maxRecDepth 100000 in
theorem lifted (os : Os) (started : os.Started) (H : Type) (enc : TypeId × Value → H) :
    ReturnsInHanded {} Try.checked os 5 .any (Rows.rttLikeSpec.pre6 enc Try.prog Try.f5 Rows.rttLikeRow.domain false) (Rows.rttLikeSpec.post enc Try.prog Try.f5 false true false false) := by
  refine law_lifted (C := Try.checked) (B := 4) own started (by kernel_rfl) Try.func5
    (ChangeSpec.witness6 (enc := enc) (C := Try.checked) false ⟨#[], #[.int .i64 0, .int .i64 0], []⟩ 8 (by kernel_rfl) (by kernel_rfl) (by kernel_rfl) (by kernel_rfl))
    rfl rfl Try.underlying4 laid (of_decide_eq_true (by kernel_rfl)) ?_ ?_
  · intro ds hl
    rw [Try.params5] at hl
    match ds, hl with
    | [d0, d1], _ => rfl
  · intro W base args ds ps hval hA hlt hz
    rw [Try.params5] at hA hval
    obtain ⟨v0, vs0, d0, ds0, p0, q0, hargs, rfl, rfl, h0, r0⟩ := trodAll_cons hA
    obtain ⟨v1, vs1, d1, ds1, p1, q1, rfl, rfl, rfl, h1, r1⟩ := trodAll_cons r0
    obtain ⟨rfl, rfl, rfl⟩ := trodAll_nil r1
    obtain rfl : args = #[v0, v1] := by cases args; simp_all
    obtain ⟨a0, rfl, rfl, rfl, w0⟩ := open_int Try.underlying3 (hval 0 3 v0 rfl rfl) h0
    obtain ⟨a1, rfl, rfl, rfl, w1⟩ := open_int Try.underlying3 (hval 1 3 v1 rfl rfl) h1
    exact walk W a0 w0 a1 w1

theorem over : Rows.rttLikeRow.holds Try.pinned (OpenSpec.ofChange Rows.rttLikeSpec) :=
  OpenClaim.holds_of_wide 5 Try.f5 rfl rfl rfl rfl rfl rfl rfl ⟨rfl, rfl, rfl, rfl, rfl⟩ rfl rfl rfl rfl rfl (by kernel_rfl) Try.func5 (by kernel_rfl)
    (of_decide_eq_true (by kernel_rfl)) (by unfold Func.isWrapper; first | (rw [if_pos (by decide +kernel)]; kernel_rfl) | (rw [if_neg (by decide +kernel)]; exact ⟨rfl, rfl⟩))
    (fun os started H enc _ => lifted os started H enc)

theorem proved : Rows.RttLikeSaid := over
#print axioms proved
end Go.Proofs.Yteojpeldiodbhaa.rttLike
