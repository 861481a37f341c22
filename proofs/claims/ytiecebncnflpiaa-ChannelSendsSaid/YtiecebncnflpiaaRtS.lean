/- What a sample of a round trip comes to. -/
import Derived.Test.YtiecebncnflpiaaRtR
namespace Go.Proofs.Ytiecebncnflpiaa.rt
open Go.ChangeShapes Go.WideShapes Go.ChangeAt Go.RowKit

/-- A small whole number that was made a float is made an int again. -/
theorem conv_back (n : Int) (h1 : -1125899906842624 < n) (h2 : n < 1125899906842624) (W : World) : (convert 77 3 (.float .f64 (floatOfInt .f64 n))).run Try.prog W = .ok (.int .i64 n) W :=
  run_convert_float_int W 77 3 .f64 .i64 _ n (by rw [Try.underlying77]; rfl) Try.underlying3 (Flt.int_of n (by omega))
theorem sum_both (a b c d : Int) (ha : -1125899906842624 < a ∧ a < 1125899906842624) (hb : -1125899906842624 < b ∧ b < 1125899906842624) (hc : -1125899906842624 < c ∧ c < 1125899906842624) (hd : -1125899906842624 < d ∧ d < 1125899906842624) (W : World) :
    (binOp .add 76 (.complex .f64 (floatOfInt .f64 a) (floatOfInt .f64 b)) (.complex .f64 (floatOfInt .f64 c) (floatOfInt .f64 d))).run Try.prog W = .ok (.complex .f64 (floatOfInt .f64 (a + c)) (floatOfInt .f64 (b + d))) W :=
  run_complex_sum W .add (Or.inl rfl) 76 .f64 _ _ _ _ _ _ (Flt.sum_bits a b c d (by omega) (by omega) (by omega) (by omega))

set_option maxHeartbeats 1000000 in
/-- A sample of the time r, from 0 to 4096, where none was seen. -/
theorem sample_first {s v rto f : Int} {has : Bool} {s' v' rto' f' : Int} (r n : Int) (hx : Rtt.or ⟨s, v, rto, f, has⟩ = ⟨s', v', rto', f', false⟩) (hn : (r < 0 ∧ n = 0) ∨ (4096 < r ∧ n = 4096) ∨ (0 ≤ r ∧ r ≤ 4096 ∧ n = r)) (w : World) :
    Calls Try.prog 39 #[.agg #[.int .i64 s, .int .i64 v, .int .i64 rto, .int .i64 f, .bool has], .int .i64 r] w fun e w' =>
      e = .returned (.agg #[.int .i64 (8 * n), .int .i64 (2 * n), .int .i64 (Rtt.wait (8 * n) (2 * n)), .int .i64 0, .bool true]) ∧ Below w.heap.size w w' := by
  have Hx := Lib.hid hx
  clear hx
  rcases hn with ⟨g, rfl⟩ | ⟨g, rfl⟩ | ⟨g, g2, rfl⟩
  · have q1 := conv_back 0 (by omega) (by omega)
    go_enter Try.func39, Try.ntmps39
    go_wp2_with fail
    refine (righted_to Hx.out _).mono ?_
    rintro e w' ⟨rfl, hb⟩
    obtain ⟨b1, b2, hz, hb0⟩ := two_blocks hb
    obtain ⟨s0, s1, c1, f1, c2, f2, s2, s3, c3, f3, z1, c0, f0, c02, f02⟩ := rows2 b1 b2 (by omega)
    clear hb b1 b2
    go_wp2
    all_goals
      refine bodyPost_ret (v := .agg #[.int .i64 (8 * 0), .int .i64 (2 * 0), .int .i64 (Rtt.wait (8 * 0) (2 * 0)), .int .i64 0, .bool true]) ?_ rfl ⟨rfl, ?_⟩
      · unfold Rtt.wait
        first
          | (simp [results, Try.results39, go_sem, c3]; done)
          | (simp [results, Try.results39, go_sem, c3]; omega)
      · exact setRow_below (setRow_below hb0 (Nat.le_refl _)) (by omega)
  · have q1 := conv_back 32768 (by omega) (by omega)
    have q2 := conv_back 8192 (by omega) (by omega)
    go_enter Try.func39, Try.ntmps39
    go_wp2_with fail
    refine (righted_to Hx.out _).mono ?_
    rintro e w' ⟨rfl, hb⟩
    obtain ⟨b1, b2, hz, hb0⟩ := two_blocks hb
    obtain ⟨s0, s1, c1, f1, c2, f2, s2, s3, c3, f3, z1, c0, f0, c02, f02⟩ := rows2 b1 b2 (by omega)
    clear hb b1 b2
    go_wp2
    all_goals
      refine bodyPost_ret (v := .agg #[.int .i64 (8 * 4096), .int .i64 (2 * 4096), .int .i64 (Rtt.wait (8 * 4096) (2 * 4096)), .int .i64 0, .bool true]) ?_ rfl ⟨rfl, ?_⟩
      · unfold Rtt.wait
        first
          | (simp [results, Try.results39, go_sem, c3]; done)
          | (simp [results, Try.results39, go_sem, c3]; omega)
      · exact setRow_below (setRow_below hb0 (Nat.le_refl _)) (by omega)
  · have q1 := conv_back (8 * n) (by omega) (by omega)
    have q2 := conv_back (2 * n) (by omega) (by omega)
    go_enter Try.func39, Try.ntmps39
    go_wp2_with fail
    refine (righted_to Hx.out _).mono ?_
    rintro e w' ⟨rfl, hb⟩
    obtain ⟨b1, b2, hz, hb0⟩ := two_blocks hb
    obtain ⟨s0, s1, c1, f1, c2, f2, s2, s3, c3, f3, z1, c0, f0, c02, f02⟩ := rows2 b1 b2 (by omega)
    clear hb b1 b2
    go_wp2
    all_goals
      refine bodyPost_ret (v := .agg #[.int .i64 (8 * n), .int .i64 (2 * n), .int .i64 (Rtt.wait (8 * n) (2 * n)), .int .i64 0, .bool true]) ?_ rfl ⟨rfl, ?_⟩
      · unfold Rtt.wait
        first
          | (simp [results, Try.results39, go_sem, c3]; done)
          | (simp [results, Try.results39, go_sem, c3]; omega)
      · exact setRow_below (setRow_below hb0 (Nat.le_refl _)) (by omega)

set_option maxHeartbeats 2000000 in
/-- A sample of the time r, from 0 to 4096, where one was seen. -/
theorem sample_more {s v rto f : Int} {has : Bool} {s' v' rto' f' : Int} (r n d m : Int) (hx : Rtt.or ⟨s, v, rto, f, has⟩ = ⟨s', v', rto', f', true⟩) (hn : (r < 0 ∧ n = 0) ∨ (4096 < r ∧ n = 4096) ∨ (0 ≤ r ∧ r ≤ 4096 ∧ n = r))
    (hs : 0 ≤ s' ∧ s' ≤ 32768) (hv : 0 ≤ v' ∧ v' ≤ 16384) (hd : d = n - s' / 8) (hm : m = max d (-d) - v' / 4) (w : World) :
    Calls Try.prog 39 #[.agg #[.int .i64 s, .int .i64 v, .int .i64 rto, .int .i64 f, .bool has], .int .i64 r] w fun e w' =>
      e = .returned (.agg #[.int .i64 (s' + d), .int .i64 (v' + m), .int .i64 (Rtt.wait (s' + d) (v' + m)), .int .i64 0, .bool true]) ∧ Below w.heap.size w w' := by
  have Hx := Lib.hid hx
  clear hx
  obtain ⟨hs1, hs2⟩ := hs
  obtain ⟨hv1, hv2⟩ := hv
  subst hd
  have d1 : -4096 ≤ n - s' / 8 := by omega
  have d2 : n - s' / 8 ≤ 4096 := by omega
  rcases hn with ⟨g, rfl⟩ | ⟨g, rfl⟩ | ⟨g, g2, rfl⟩
  · rw [Int.zero_sub] at hm d1 d2 ⊢
    by_cases h0 : 0 ≤ -(s' / 8)
    · obtain rfl : m = -(s' / 8) - v' / 4 := by omega
      clear hm
      have q0 := sum_both s' v' (-(s' / 8)) (-(s' / 8) - v' / 4) (by omega) (by omega) (by omega) (by omega)
      have q1 := conv_back (s' + (-(s' / 8))) (by omega) (by omega)
      have q2 := conv_back (v' + (-(s' / 8) - v' / 4)) (by omega) (by omega)
      go_enter Try.func39, Try.ntmps39
      go_wp2_with fail
      refine (righted_to Hx.out _).mono ?_
      rintro e w' ⟨rfl, hb⟩
      obtain ⟨b1, b2, hz, hb0⟩ := two_blocks hb
      obtain ⟨s0, s1, c1, f1, c2, f2, s2, s3, c3, f3, z1, c0, f0, c02, f02⟩ := rows2 b1 b2 (by omega)
      clear hb b1 b2
      go_wp2
      all_goals
        refine bodyPost_ret (v := .agg #[.int .i64 (s' + (-(s' / 8))), .int .i64 (v' + (-(s' / 8) - v' / 4)), .int .i64 (Rtt.wait (s' + (-(s' / 8))) (v' + (-(s' / 8) - v' / 4))), .int .i64 0, .bool true]) ?_ rfl ⟨rfl, ?_⟩
        · unfold Rtt.wait
          first
            | (simp [results, Try.results39, go_sem, c3]; done)
            | (simp [results, Try.results39, go_sem, c3]; omega)
        · exact setRow_below (setRow_below hb0 (Nat.le_refl _)) (by omega)
    · obtain rfl : m = s' / 8 - v' / 4 := by omega
      clear hm
      have q0 := sum_both s' v' (-(s' / 8)) (s' / 8 - v' / 4) (by omega) (by omega) (by omega) (by omega)
      have q1 := conv_back (s' + (-(s' / 8))) (by omega) (by omega)
      have q2 := conv_back (v' + (s' / 8 - v' / 4)) (by omega) (by omega)
      go_enter Try.func39, Try.ntmps39
      go_wp2_with fail
      refine (righted_to Hx.out _).mono ?_
      rintro e w' ⟨rfl, hb⟩
      obtain ⟨b1, b2, hz, hb0⟩ := two_blocks hb
      obtain ⟨s0, s1, c1, f1, c2, f2, s2, s3, c3, f3, z1, c0, f0, c02, f02⟩ := rows2 b1 b2 (by omega)
      clear hb b1 b2
      go_wp2
      all_goals
        refine bodyPost_ret (v := .agg #[.int .i64 (s' + (-(s' / 8))), .int .i64 (v' + (s' / 8 - v' / 4)), .int .i64 (Rtt.wait (s' + (-(s' / 8))) (v' + (s' / 8 - v' / 4))), .int .i64 0, .bool true]) ?_ rfl ⟨rfl, ?_⟩
        · unfold Rtt.wait
          first
            | (simp [results, Try.results39, go_sem, c3]; done)
            | (simp [results, Try.results39, go_sem, c3]; omega)
        · exact setRow_below (setRow_below hb0 (Nat.le_refl _)) (by omega)
  · by_cases h0 : 0 ≤ 4096 - s' / 8
    · obtain rfl : m = 4096 - s' / 8 - v' / 4 := by omega
      clear hm
      have q0 := sum_both s' v' (4096 - s' / 8) (4096 - s' / 8 - v' / 4) (by omega) (by omega) (by omega) (by omega)
      have q1 := conv_back (s' + (4096 - s' / 8)) (by omega) (by omega)
      have q2 := conv_back (v' + (4096 - s' / 8 - v' / 4)) (by omega) (by omega)
      go_enter Try.func39, Try.ntmps39
      go_wp2_with fail
      refine (righted_to Hx.out _).mono ?_
      rintro e w' ⟨rfl, hb⟩
      obtain ⟨b1, b2, hz, hb0⟩ := two_blocks hb
      obtain ⟨s0, s1, c1, f1, c2, f2, s2, s3, c3, f3, z1, c0, f0, c02, f02⟩ := rows2 b1 b2 (by omega)
      clear hb b1 b2
      go_wp2
      all_goals
        refine bodyPost_ret (v := .agg #[.int .i64 (s' + (4096 - s' / 8)), .int .i64 (v' + (4096 - s' / 8 - v' / 4)), .int .i64 (Rtt.wait (s' + (4096 - s' / 8)) (v' + (4096 - s' / 8 - v' / 4))), .int .i64 0, .bool true]) ?_ rfl ⟨rfl, ?_⟩
        · unfold Rtt.wait
          first
            | (simp [results, Try.results39, go_sem, c3]; done)
            | (simp [results, Try.results39, go_sem, c3]; omega)
        · exact setRow_below (setRow_below hb0 (Nat.le_refl _)) (by omega)
    · exfalso; omega
  · by_cases h0 : 0 ≤ n - s' / 8
    · obtain rfl : m = n - s' / 8 - v' / 4 := by omega
      clear hm
      have q0 := sum_both s' v' (n - s' / 8) (n - s' / 8 - v' / 4) (by omega) (by omega) (by omega) (by omega)
      have q1 := conv_back (s' + (n - s' / 8)) (by omega) (by omega)
      have q2 := conv_back (v' + (n - s' / 8 - v' / 4)) (by omega) (by omega)
      go_enter Try.func39, Try.ntmps39
      go_wp2_with fail
      refine (righted_to Hx.out _).mono ?_
      rintro e w' ⟨rfl, hb⟩
      obtain ⟨b1, b2, hz, hb0⟩ := two_blocks hb
      obtain ⟨s0, s1, c1, f1, c2, f2, s2, s3, c3, f3, z1, c0, f0, c02, f02⟩ := rows2 b1 b2 (by omega)
      clear hb b1 b2
      go_wp2
      all_goals
        refine bodyPost_ret (v := .agg #[.int .i64 (s' + (n - s' / 8)), .int .i64 (v' + (n - s' / 8 - v' / 4)), .int .i64 (Rtt.wait (s' + (n - s' / 8)) (v' + (n - s' / 8 - v' / 4))), .int .i64 0, .bool true]) ?_ rfl ⟨rfl, ?_⟩
        · unfold Rtt.wait
          first
            | (simp [results, Try.results39, go_sem, c3]; done)
            | (simp [results, Try.results39, go_sem, c3]; omega)
        · exact setRow_below (setRow_below hb0 (Nat.le_refl _)) (by omega)
    · obtain rfl : m = -(n - s' / 8) - v' / 4 := by omega
      clear hm
      have q0 := sum_both s' v' (n - s' / 8) (-(n - s' / 8) - v' / 4) (by omega) (by omega) (by omega) (by omega)
      have q1 := conv_back (s' + (n - s' / 8)) (by omega) (by omega)
      have q2 := conv_back (v' + (-(n - s' / 8) - v' / 4)) (by omega) (by omega)
      go_enter Try.func39, Try.ntmps39
      go_wp2_with fail
      refine (righted_to Hx.out _).mono ?_
      rintro e w' ⟨rfl, hb⟩
      obtain ⟨b1, b2, hz, hb0⟩ := two_blocks hb
      obtain ⟨s0, s1, c1, f1, c2, f2, s2, s3, c3, f3, z1, c0, f0, c02, f02⟩ := rows2 b1 b2 (by omega)
      clear hb b1 b2
      go_wp2
      all_goals
        refine bodyPost_ret (v := .agg #[.int .i64 (s' + (n - s' / 8)), .int .i64 (v' + (-(n - s' / 8) - v' / 4)), .int .i64 (Rtt.wait (s' + (n - s' / 8)) (v' + (-(n - s' / 8) - v' / 4))), .int .i64 0, .bool true]) ?_ rfl ⟨rfl, ?_⟩
        · unfold Rtt.wait
          first
            | (simp [results, Try.results39, go_sem, c3]; done)
            | (simp [results, Try.results39, go_sem, c3]; omega)
        · exact setRow_below (setRow_below hb0 (Nat.le_refl _)) (by omega)

theorem sample_any (s v rto f : Int) (has : Bool) (r : Int) (w : World) :
    Calls Try.prog 39 #[.agg #[.int .i64 s, .int .i64 v, .int .i64 rto, .int .i64 f, .bool has], .int .i64 r] w fun e w' => e = .returned (Rtt.sample ⟨s, v, rto, f, has⟩ r).val ∧ Below w.heap.size w w' := by
  have hok := Rtt.or_ok ⟨s, v, rto, f, has⟩
  have hn : (r < 0 ∧ Rtt.cut r = 0) ∨ (4096 < r ∧ Rtt.cut r = 4096) ∨ (0 ≤ r ∧ r ≤ 4096 ∧ Rtt.cut r = r) := by unfold Rtt.cut; omega
  generalize hx : Rtt.or ⟨s, v, rto, f, has⟩ = x at hok
  obtain ⟨s', v', rto', f', has'⟩ := x
  obtain ⟨a1, a2, a3, a4, -⟩ := hok
  cases has' with
  | false =>
    refine (sample_first r (Rtt.cut r) hx hn w).mono fun e w' ⟨he, hb⟩ => ⟨?_, hb⟩
    rw [he]; unfold Rtt.sample Rtt.step; rw [hx]; rfl
  | true =>
    refine (sample_more r (Rtt.cut r) _ _ hx hn ⟨a1, a2⟩ ⟨a3, a4⟩ rfl rfl w).mono fun e w' ⟨he, hb⟩ => ⟨?_, hb⟩
    rw [he]; unfold Rtt.sample Rtt.step; rw [hx]; rfl
end Go.Proofs.Ytiecebncnflpiaa.rt
