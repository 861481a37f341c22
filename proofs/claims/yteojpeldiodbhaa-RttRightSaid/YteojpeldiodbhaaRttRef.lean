/- What the document's own answers of layer 9 come to. -/
import Derived.Test.YteojpeldiodbhaaRtt
namespace Go.Proofs.Yteojpeldiodbhaa
open Go.ChangeShapes Go.WideShapes Go.ChangeAt Go.RowKit

theorem right_eq (e : Rtt) (b : Bool) (h : b = true ↔ e.Ok) : Ending.returned (.bool b) = .returned (.bool e.right) := by
  have : b = e.right := by rw [Bool.eq_iff_iff, Rtt.right_iff]; exact h
  rw [this]

theorem rstart_any (w : World) : Calls Try.prog 21 #[] w fun e w' => e = .returned (.agg #[.int .i64 0, .int .i64 0, .int .i64 8, .int .i64 0, .bool false]) ∧ Below w.heap.size w w' := by
  go_enter Try.func21, Try.ntmps21
  go_wp2
  exact bodyPost_ret (v := .agg #[.int .i64 0, .int .i64 0, .int .i64 8, .int .i64 0, .bool false]) (by simp [results, Try.results21, go_sem]) rfl ⟨rfl, (Below.refl _ _).alloc (Nat.le_refl _) _⟩

theorem rright_any (s v rto f : Int) (has : Bool) (w : World) :
    Calls Try.prog 12 #[.agg #[.int .i64 s, .int .i64 v, .int .i64 rto, .int .i64 f, .bool has]] w fun e w' => e = .returned (.bool (Rtt.right ⟨s, v, rto, f, has⟩)) ∧ Below w.heap.size w w' := by
  go_enter Try.func12, Try.ntmps12
  go_wp2
  all_goals (go_ret; exact ⟨right_eq _ _ (by unfold Rtt.Ok; cases has <;> simp_all <;> omega), (Below.refl _ _).alloc (Nat.le_refl _) _⟩)
theorem ror_any (s v rto f : Int) (has : Bool) (w : World) :
    Calls Try.prog 20 #[.agg #[.int .i64 s, .int .i64 v, .int .i64 rto, .int .i64 f, .bool has]] w fun e w' => e = .returned (Rtt.or ⟨s, v, rto, f, has⟩).val ∧ Below w.heap.size w w' := by
  by_cases h : Rtt.right ⟨s, v, rto, f, has⟩ = true
  · have H := Lib.hid (Rtt.or_of _ h)
    go_enter Try.func20, Try.ntmps20
    go_wp2_with (first
      | (go_at_call 12; refine (rright_any _ _ _ _ _ _).mono ?_; rintro e w' ⟨rfl, hb⟩; obtain ⟨hc, hf⟩ := bcell hb; have hz : w.heap.size + 1 < w'.heap.size := by (have := hb.size; simp at this; omega))
      )
    have hb0 : Below w.heap.size w w' := (((Below.refl _ _).alloc (Nat.le_refl _) _).alloc (by simp) _).trans (hb.mono (by simp; omega))
    refine bodyPost_ret (v := .agg #[.int .i64 s, .int .i64 v, .int .i64 rto, .int .i64 f, .bool has]) ?_ rfl ⟨by rw [H.out]; rfl, ?_⟩
    · simp [results, Try.results20, go_sem, hc]
    · repeat (refine below_set ?_ (by omega))
      exact hb0
  · have h2 : Rtt.right ⟨s, v, rto, f, has⟩ = false := by simpa using h
    have H := Lib.hid (Rtt.or_not _ h2)
    clear h
    go_enter Try.func20, Try.ntmps20
    go_wp2_with (first
      | (go_at_call 12; refine (rright_any _ _ _ _ _ _).mono ?_; rintro e w' ⟨rfl, hb⟩; have hb0 : Below w.heap.size w w' := (((Below.refl _ _).alloc (Nat.le_refl _) _).alloc (by simp) _).trans (hb.mono (by simp; omega)); obtain ⟨hc, hf⟩ := bcell hb; have hz : w.heap.size + 1 < w'.heap.size := by (have := hb.size; simp at this; omega))
      | (go_at_call 21; refine (rstart_any _).mono ?_; rintro e w2 ⟨rfl, hb2⟩; have hb3 := hb0.trans (hb2.mono hb0.size); obtain ⟨hc2, hf2⟩ := bcell hb2)
      )
    refine bodyPost_ret (v := .agg #[.int .i64 0, .int .i64 0, .int .i64 8, .int .i64 0, .bool false]) ?_ rfl ⟨by rw [H.out]; rfl, ?_⟩
    · simp [results, Try.results20, go_sem, hc2, hc, hz]
    · repeat (refine below_set ?_ (by omega))
      exact hb3

/-- 'or', with what it comes to written out. -/
theorem ror_to {s v rto f : Int} {has : Bool} {s' v' rto' f' : Int} {has' : Bool} (h : Rtt.or ⟨s, v, rto, f, has⟩ = ⟨s', v', rto', f', has'⟩) (w : World) :
    Calls Try.prog 20 #[.agg #[.int .i64 s, .int .i64 v, .int .i64 rto, .int .i64 f, .bool has]] w fun e w' => e = .returned (.agg #[.int .i64 s', .int .i64 v', .int .i64 rto', .int .i64 f', .bool has']) ∧ Below w.heap.size w w' := by
  have := ror_any s v rto f has w
  rw [h] at this
  exact this


theorem rbackoff_any (s v rto f : Int) (has : Bool) (w : World) :
    Calls Try.prog 16 #[.agg #[.int .i64 s, .int .i64 v, .int .i64 rto, .int .i64 f, .bool has]] w fun e w' => e = .returned (Rtt.backoff ⟨s, v, rto, f, has⟩).val ∧ Below w.heap.size w w' := by
  have hok := Rtt.or_ok ⟨s, v, rto, f, has⟩
  generalize hx : Rtt.or ⟨s, v, rto, f, has⟩ = x at hok
  have Hx := Lib.hid hx
  obtain ⟨s', v', rto', f', has'⟩ := x
  have HV : Hid ((Rtt.backoff ⟨s, v, rto, f, has⟩).val = .agg #[.int .i64 s', .int .i64 v', .int .i64 (min (2 * rto') 64), .int .i64 (min (f' + 1) 100), .bool has']) := Lib.hid (by unfold Rtt.backoff; rw [hx]; rfl)
  clear hx
  obtain ⟨a1, a2, a3, a4, a5, a6, a7, a8, -⟩ := hok
  simp only at a1 a2 a3 a4 a5 a6 a7 a8
  go_enter Try.func16, Try.ntmps16
  go_wp2_with fail
  refine (ror_to Hx.out _).mono ?_
  rintro e w' ⟨rfl, hb⟩
  obtain ⟨b1, b2, hz, hb0⟩ := two_blocks hb
  obtain ⟨s0, s1, c1, f1, c2, f2, s2, s3, c3, f3, z1, c0, f0, c02, f02⟩ := rows2 b2 b1 (by omega)
  clear hb b1 b2
  go_wp2
  all_goals
    refine bodyPost_ret (v := .agg #[.int .i64 s', .int .i64 v', .int .i64 (min (2 * rto') 64), .int .i64 (min (f' + 1) 100), .bool has']) ?_ rfl ⟨by rw [HV.out], ?_⟩
    · simp [results, Try.results16, go_sem, c1, z1, hz]
      omega
    · exact (setRow_below hb0 (by omega)).alloc (by rw [z1]; omega) _

set_option maxHeartbeats 1000000 in
theorem rsample_first {s v rto f : Int} {has : Bool} {s' v' rto' f' : Int} (r n : Int) (hx : Rtt.or ⟨s, v, rto, f, has⟩ = ⟨s', v', rto', f', false⟩) (hn : (r < 0 ∧ n = 0) ∨ (4096 < r ∧ n = 4096) ∨ (0 ≤ r ∧ r ≤ 4096 ∧ n = r)) (w : World) :
    Calls Try.prog 14 #[.agg #[.int .i64 s, .int .i64 v, .int .i64 rto, .int .i64 f, .bool has], .int .i64 r] w fun e w' =>
      e = .returned (.agg #[.int .i64 (8 * n), .int .i64 (2 * n), .int .i64 (Rtt.wait (8 * n) (2 * n)), .int .i64 0, .bool true]) ∧ Below w.heap.size w w' := by
  have Hx := Lib.hid hx
  clear hx
  rcases hn with ⟨g, rfl⟩ | ⟨g, rfl⟩ | ⟨g, g2, rfl⟩
  · go_enter Try.func14, Try.ntmps14
    go_wp2_with fail
    refine (ror_to Hx.out _).mono ?_
    rintro e w' ⟨rfl, hb⟩
    obtain ⟨b1, b2, hz, hb0⟩ := two_blocks hb
    obtain ⟨s0, s1, c1, f1, c2, f2, s2, s3, c3, f3, z1, c0, f0, c02, f02⟩ := rows2 b2 b1 (by omega)
    clear hb b1 b2
    go_wp2
    all_goals
      refine bodyPost_ret (v := .agg #[.int .i64 (8 * 0), .int .i64 (2 * 0), .int .i64 (Rtt.wait (8 * 0) (2 * 0)), .int .i64 0, .bool true]) ?_ rfl ⟨rfl, ?_⟩
      · unfold Rtt.wait
        first
          | (simp [results, Try.results14, go_sem, c1, z1, hz]; done)
          | (simp [results, Try.results14, go_sem, c1, z1, hz]; omega)
      · first
          | exact setRow_below hb0 (by omega)
          | exact (setRow_below hb0 (by omega)).alloc (by rw [z1]; omega) _
  · go_enter Try.func14, Try.ntmps14
    go_wp2_with fail
    refine (ror_to Hx.out _).mono ?_
    rintro e w' ⟨rfl, hb⟩
    obtain ⟨b1, b2, hz, hb0⟩ := two_blocks hb
    obtain ⟨s0, s1, c1, f1, c2, f2, s2, s3, c3, f3, z1, c0, f0, c02, f02⟩ := rows2 b2 b1 (by omega)
    clear hb b1 b2
    go_wp2
    all_goals
      refine bodyPost_ret (v := .agg #[.int .i64 (8 * 4096), .int .i64 (2 * 4096), .int .i64 (Rtt.wait (8 * 4096) (2 * 4096)), .int .i64 0, .bool true]) ?_ rfl ⟨rfl, ?_⟩
      · unfold Rtt.wait
        first
          | (simp [results, Try.results14, go_sem, c1, z1, hz]; done)
          | (simp [results, Try.results14, go_sem, c1, z1, hz]; omega)
      · first
          | exact setRow_below hb0 (by omega)
          | exact (setRow_below hb0 (by omega)).alloc (by rw [z1]; omega) _
  · go_enter Try.func14, Try.ntmps14
    go_wp2_with fail
    refine (ror_to Hx.out _).mono ?_
    rintro e w' ⟨rfl, hb⟩
    obtain ⟨b1, b2, hz, hb0⟩ := two_blocks hb
    obtain ⟨s0, s1, c1, f1, c2, f2, s2, s3, c3, f3, z1, c0, f0, c02, f02⟩ := rows2 b2 b1 (by omega)
    clear hb b1 b2
    go_wp2
    all_goals
      refine bodyPost_ret (v := .agg #[.int .i64 (8 * n), .int .i64 (2 * n), .int .i64 (Rtt.wait (8 * n) (2 * n)), .int .i64 0, .bool true]) ?_ rfl ⟨rfl, ?_⟩
      · unfold Rtt.wait
        first
          | (simp [results, Try.results14, go_sem, c1, z1, hz]; done)
          | (simp [results, Try.results14, go_sem, c1, z1, hz]; omega)
      · first
          | exact setRow_below hb0 (by omega)
          | exact (setRow_below hb0 (by omega)).alloc (by rw [z1]; omega) _

set_option maxHeartbeats 2000000 in
theorem rsample_more {s v rto f : Int} {has : Bool} {s' v' rto' f' : Int} (r n d m : Int) (hx : Rtt.or ⟨s, v, rto, f, has⟩ = ⟨s', v', rto', f', true⟩) (hn : (r < 0 ∧ n = 0) ∨ (4096 < r ∧ n = 4096) ∨ (0 ≤ r ∧ r ≤ 4096 ∧ n = r))
    (hs : 0 ≤ s' ∧ s' ≤ 32768) (hv : 0 ≤ v' ∧ v' ≤ 16384) (hd : d = n - s' / 8) (hm : m = max d (-d) - v' / 4) (w : World) :
    Calls Try.prog 14 #[.agg #[.int .i64 s, .int .i64 v, .int .i64 rto, .int .i64 f, .bool has], .int .i64 r] w fun e w' =>
      e = .returned (.agg #[.int .i64 (s' + d), .int .i64 (v' + m), .int .i64 (Rtt.wait (s' + d) (v' + m)), .int .i64 0, .bool true]) ∧ Below w.heap.size w w' := by
  have Hx := Lib.hid hx
  clear hx
  obtain ⟨hs1, hs2⟩ := hs
  obtain ⟨hv1, hv2⟩ := hv
  subst hd
  have d1 : -4096 ≤ n - s' / 8 := by omega
  have d2 : n - s' / 8 ≤ 4096 := by omega
  rcases hn with ⟨g, rfl⟩ | ⟨g, rfl⟩ | ⟨g, g2, rfl⟩
  · rw [Int.zero_sub] at hm d1 d2 ⊢
    by_cases h0 : 0 ≤ -(s' / 8)
    · obtain rfl : m = -(s' / 8) - v' / 4 := by omega
      clear hm
      go_enter Try.func14, Try.ntmps14
      go_wp2_with fail
      refine (ror_to Hx.out _).mono ?_
      rintro e w' ⟨rfl, hb⟩
      obtain ⟨b1, b2, hz, hb0⟩ := two_blocks hb
      obtain ⟨s0, s1, c1, f1, c2, f2, s2, s3, c3, f3, z1, c0, f0, c02, f02⟩ := rows2 b2 b1 (by omega)
      clear hb b1 b2
      go_wp2
      all_goals
        refine bodyPost_ret (v := .agg #[.int .i64 (s' + (-(s' / 8))), .int .i64 (v' + (-(s' / 8) - v' / 4)), .int .i64 (Rtt.wait (s' + (-(s' / 8))) (v' + (-(s' / 8) - v' / 4))), .int .i64 0, .bool true]) ?_ rfl ⟨rfl, ?_⟩
        · unfold Rtt.wait
          first
            | (simp [results, Try.results14, go_sem, c1, z1, hz]; done)
            | (simp [results, Try.results14, go_sem, c1, z1, hz]; omega)
        · first
            | exact setRow_below hb0 (by omega)
            | exact (setRow_below hb0 (by omega)).alloc (by rw [z1]; omega) _
    · obtain rfl : m = s' / 8 - v' / 4 := by omega
      clear hm
      go_enter Try.func14, Try.ntmps14
      go_wp2_with fail
      refine (ror_to Hx.out _).mono ?_
      rintro e w' ⟨rfl, hb⟩
      obtain ⟨b1, b2, hz, hb0⟩ := two_blocks hb
      obtain ⟨s0, s1, c1, f1, c2, f2, s2, s3, c3, f3, z1, c0, f0, c02, f02⟩ := rows2 b2 b1 (by omega)
      clear hb b1 b2
      go_wp2
      all_goals
        refine bodyPost_ret (v := .agg #[.int .i64 (s' + (-(s' / 8))), .int .i64 (v' + (s' / 8 - v' / 4)), .int .i64 (Rtt.wait (s' + (-(s' / 8))) (v' + (s' / 8 - v' / 4))), .int .i64 0, .bool true]) ?_ rfl ⟨rfl, ?_⟩
        · unfold Rtt.wait
          first
            | (simp [results, Try.results14, go_sem, c1, z1, hz]; done)
            | (simp [results, Try.results14, go_sem, c1, z1, hz]; omega)
        · first
            | exact setRow_below hb0 (by omega)
            | exact (setRow_below hb0 (by omega)).alloc (by rw [z1]; omega) _
  · by_cases h0 : 0 ≤ 4096 - s' / 8
    · obtain rfl : m = 4096 - s' / 8 - v' / 4 := by omega
      clear hm
      go_enter Try.func14, Try.ntmps14
      go_wp2_with fail
      refine (ror_to Hx.out _).mono ?_
      rintro e w' ⟨rfl, hb⟩
      obtain ⟨b1, b2, hz, hb0⟩ := two_blocks hb
      obtain ⟨s0, s1, c1, f1, c2, f2, s2, s3, c3, f3, z1, c0, f0, c02, f02⟩ := rows2 b2 b1 (by omega)
      clear hb b1 b2
      go_wp2
      all_goals
        refine bodyPost_ret (v := .agg #[.int .i64 (s' + (4096 - s' / 8)), .int .i64 (v' + (4096 - s' / 8 - v' / 4)), .int .i64 (Rtt.wait (s' + (4096 - s' / 8)) (v' + (4096 - s' / 8 - v' / 4))), .int .i64 0, .bool true]) ?_ rfl ⟨rfl, ?_⟩
        · unfold Rtt.wait
          first
            | (simp [results, Try.results14, go_sem, c1, z1, hz]; done)
            | (simp [results, Try.results14, go_sem, c1, z1, hz]; omega)
        · first
            | exact setRow_below hb0 (by omega)
            | exact (setRow_below hb0 (by omega)).alloc (by rw [z1]; omega) _
    · exfalso; omega
  · by_cases h0 : 0 ≤ n - s' / 8
    · obtain rfl : m = n - s' / 8 - v' / 4 := by omega
      clear hm
      go_enter Try.func14, Try.ntmps14
      go_wp2_with fail
      refine (ror_to Hx.out _).mono ?_
      rintro e w' ⟨rfl, hb⟩
      obtain ⟨b1, b2, hz, hb0⟩ := two_blocks hb
      obtain ⟨s0, s1, c1, f1, c2, f2, s2, s3, c3, f3, z1, c0, f0, c02, f02⟩ := rows2 b2 b1 (by omega)
      clear hb b1 b2
      go_wp2
      all_goals
        refine bodyPost_ret (v := .agg #[.int .i64 (s' + (n - s' / 8)), .int .i64 (v' + (n - s' / 8 - v' / 4)), .int .i64 (Rtt.wait (s' + (n - s' / 8)) (v' + (n - s' / 8 - v' / 4))), .int .i64 0, .bool true]) ?_ rfl ⟨rfl, ?_⟩
        · unfold Rtt.wait
          first
            | (simp [results, Try.results14, go_sem, c1, z1, hz]; done)
            | (simp [results, Try.results14, go_sem, c1, z1, hz]; omega)
        · first
            | exact setRow_below hb0 (by omega)
            | exact (setRow_below hb0 (by omega)).alloc (by rw [z1]; omega) _
    · obtain rfl : m = -(n - s' / 8) - v' / 4 := by omega
      clear hm
      go_enter Try.func14, Try.ntmps14
      go_wp2_with fail
      refine (ror_to Hx.out _).mono ?_
      rintro e w' ⟨rfl, hb⟩
      obtain ⟨b1, b2, hz, hb0⟩ := two_blocks hb
      obtain ⟨s0, s1, c1, f1, c2, f2, s2, s3, c3, f3, z1, c0, f0, c02, f02⟩ := rows2 b2 b1 (by omega)
      clear hb b1 b2
      go_wp2
      all_goals
        refine bodyPost_ret (v := .agg #[.int .i64 (s' + (n - s' / 8)), .int .i64 (v' + (-(n - s' / 8) - v' / 4)), .int .i64 (Rtt.wait (s' + (n - s' / 8)) (v' + (-(n - s' / 8) - v' / 4))), .int .i64 0, .bool true]) ?_ rfl ⟨rfl, ?_⟩
        · unfold Rtt.wait
          first
            | (simp [results, Try.results14, go_sem, c1, z1, hz]; done)
            | (simp [results, Try.results14, go_sem, c1, z1, hz]; omega)
        · first
            | exact setRow_below hb0 (by omega)
            | exact (setRow_below hb0 (by omega)).alloc (by rw [z1]; omega) _

theorem rsample_any (s v rto f : Int) (has : Bool) (r : Int) (w : World) :
    Calls Try.prog 14 #[.agg #[.int .i64 s, .int .i64 v, .int .i64 rto, .int .i64 f, .bool has], .int .i64 r] w fun e w' => e = .returned (Rtt.sample ⟨s, v, rto, f, has⟩ r).val ∧ Below w.heap.size w w' := by
  have hok := Rtt.or_ok ⟨s, v, rto, f, has⟩
  have hn : (r < 0 ∧ Rtt.cut r = 0) ∨ (4096 < r ∧ Rtt.cut r = 4096) ∨ (0 ≤ r ∧ r ≤ 4096 ∧ Rtt.cut r = r) := by unfold Rtt.cut; omega
  generalize hx : Rtt.or ⟨s, v, rto, f, has⟩ = x at hok
  obtain ⟨s', v', rto', f', has'⟩ := x
  obtain ⟨a1, a2, a3, a4, -⟩ := hok
  cases has' with
  | false =>
    refine (rsample_first r (Rtt.cut r) hx hn w).mono fun e w' ⟨he, hb⟩ => ⟨?_, hb⟩
    rw [he]; unfold Rtt.sample Rtt.step; rw [hx]; rfl
  | true =>
    refine (rsample_more r (Rtt.cut r) _ _ hx hn ⟨a1, a2⟩ ⟨a3, a4⟩ rfl rfl w).mono fun e w' ⟨he, hb⟩ => ⟨?_, hb⟩
    rw [he]; unfold Rtt.sample Rtt.step; rw [hx]; rfl
end Go.Proofs.Yteojpeldiodbhaa
