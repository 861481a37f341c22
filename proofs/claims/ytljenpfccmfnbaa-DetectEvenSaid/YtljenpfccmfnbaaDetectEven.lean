/- DetectEven holds for any time from 0 to 2^30, and how many beats: who beats as awaited is waited for 10 ticks behind each beat. No condition. -/
import Derived.Test.YtljenpfccmfnbaaDet5
import Derived.Test.YtljenpfccmfnbaaDetMath3
namespace Go.Proofs.Ytljenpfccmfnbaa.detectEven
open Go.ChangeShapes Go.WideShapes Go.ChangeAt Go.RowKit

set_option maxRecDepth 10000 in
set_option maxHeartbeats 4000000 in
theorem walk (w : World) (now : Int) (w1 : (Lit.int .i64 now).wf = true) (n : Int) (w2 : (Lit.int .i64 n).wf = true) :
    Calls Try.prog 5 #[.int .i64 now, .int .i64 n] w fun e w' => e = .returned (.bool true) ∧ Below w.heap.size w w' := by
  clear w1 w2
  by_cases hbad : now < 0 ∨ 1073741824 < now ∨ n < 0 ∨ 100 < n
  · have hcase : now < 0 ∨ (0 ≤ now ∧ 1073741824 < now) ∨ (0 ≤ now ∧ now ≤ 1073741824 ∧ n < 0) ∨ (0 ≤ now ∧ now ≤ 1073741824 ∧ 0 ≤ n ∧ 100 < n) := by omega
    clear hbad
    rcases hcase with h | ⟨h0, h⟩ | ⟨h0, h1, h⟩ | ⟨h0, h1, h2, h⟩
    all_goals
      go_enter Try.func5, Try.ntmps5
      go_wp2_with fail
      refine (small_any _).mono ?_
      rintro e w1 ⟨rfl, B1⟩
      go_wp2_with fail
      go_ret
      exact ⟨rfl, B1⟩
  · have h0 : 0 ≤ now := by omega
    have h1 : now ≤ 1073741824 := by omega
    obtain ⟨n, rfl⟩ : ∃ m : Nat, n = m := ⟨n.toNat, by omega⟩
    have h2 : n ≤ 100 := by omega
    clear hbad
    go_enter Try.func5, Try.ntmps5
    go_wp2_with fail
    refine (small_any _).mono ?_
    rintro e w1 ⟨rfl, B1⟩
    go_wp2_with fail
    refine (start_any now _).mono ?_
    rintro e w2 ⟨A2, c2, rfl, hO2, hb2⟩
    have N2 := hO2.beats
    rw [Det.even_0 now h0 h1] at N2
    have B2 := B1.trans (hb2.mono B1.size)
    clear hO2 hb2 B1
    go_wp2_with fail
    go_loopw [6, 7] (fun v i wr => ∃ (t : Nat) (B : Option Addr) (c : Nat), t ≤ n ∧ i = .int .i64 ((t + 1 : Nat) : Int) ∧ v = .slice B (min (t + 1) 8) c ∧ Beats wr B (Det.even now t) ∧ Below w.heap.size w wr) (fun _ i _ => n + 1 - (intOf i).toNat)
    case atStart => exact ⟨0, A2, c2, Nat.zero_le _, rfl, rfl, N2, B2⟩
    case round =>
      obtain ⟨t, B, c, ht, rfl, rfl, hNB, hB⟩ := hrel
      clear N2 B2
      by_cases htn : t < n
      · have hbeat := Lib.hid (Det.even_beat now t h0 h1 (by omega))
        have hmay := Lib.hid (Det.even_may now t h0 h1 (by omega))
        have hdl := Lib.hid (Det.even_deadline now (t + 1) h0 h1 (by omega))
        have hle := Lib.hid (Det.even_len now t)
        have hle2 := Lib.hid (Det.even_len now (t + 1))
        have HNB := Lib.hid hNB
        have hm8 : 1 ≤ min (t + 1) 8 := by omega
        have hm9 : min (t + 1) 8 ≤ 8 := by omega
        obtain ⟨m, hm⟩ : ∃ m, m = min (t + 1) 8 := ⟨_, rfl⟩
        rw [← hm] at hle hm8 hm9 ⊢
        clear hm
        obtain ⟨i, hi⟩ : ∃ i : Nat, i = t + 1 := ⟨_, rfl⟩
        rw [← hi] at hbeat hmay hdl hle2
        have HI := Lib.hid hi
        have hin : (i : Int) ≤ (n : Int) := by omega
        have e1 : IntKind.i64.wrap (4 * (i : Int)) = 4 * (i : Int) := IntWalk.i64_in _ (by omega)
        have e2 : IntKind.i64.wrap (now + 4 * (i : Int)) = now + 4 * (i : Int) := IntWalk.i64_in _ (by omega)
        have e3 : IntKind.i64.wrap (now + 4 * (i : Int) + 10) = now + 4 * (i : Int) + 10 := IntWalk.i64_in _ (by omega)
        have e4 : IntKind.i64.wrap ((i : Int) + 1) = (i : Int) + 1 := IntWalk.i64_in _ (by omega)
        rw [← hi]
        clear hNB
        clear hi
        go_wp2_with fail
        refine (beat_to hbeat.out hmay.out hle2.out hle.out HNB.out (by omega)).mono ?_
        rintro e w3 ⟨A3, c3, rfl, hO3, hb3⟩
        have N3 := hO3.beats
        have B3 := hB.trans (hb3.mono hB.size)
        clear hO3 hb3 hB
        go_wp2_with fail
        refine (deadline_to hdl.out hle2.out N3 (by omega) (by omega)).mono ?_
        rintro e w4 ⟨rfl, hb4⟩
        have N4 := N3.below hb4
        have B4 := B3.trans (hb4.mono B3.size)
        clear hb4 N3 B3
        go_wp2_with fail
        go_roundw
        case rel => exact ⟨i, A3, c3, by omega, by first | rfl | go_num, rfl, N4, B4⟩
        case measure => have := HI.out; simp [intOf]; omega
      · obtain rfl : t = n := by omega
        have hdl := Lib.hid (Det.even_deadline now t h0 h1 (by omega))
        have hle := Lib.hid (Det.even_len now t)
        have e1 : IntKind.i64.wrap (4 * (t : Int)) = 4 * (t : Int) := IntWalk.i64_in _ (by omega)
        have e2 : IntKind.i64.wrap (now + 4 * (t : Int)) = now + 4 * (t : Int) := IntWalk.i64_in _ (by omega)
        have e3 : IntKind.i64.wrap (now + 4 * (t : Int) + 10) = now + 4 * (t : Int) + 10 := IntWalk.i64_in _ (by omega)
        have hm8 : 1 ≤ min (t + 1) 8 := by omega
        obtain ⟨m, hm⟩ : ∃ m, m = min (t + 1) 8 := ⟨_, rfl⟩
        rw [← hm] at hle ⊢
        have hq : (m : Int) = min ((t : Int) + 1) 8 := by omega
        have HQ := Lib.hid hq
        have HM := Lib.hid hm
        clear hq hm
        have hm8' : 1 ≤ m := by have := HM.out; omega
        have hm9' : m ≤ 8 := by have := HM.out; omega
        clear hm8
        go_wp2_with fail
        refine (deadline_to hdl.out hle.out hNB (by omega) (by omega)).mono ?_
        rintro e w4 ⟨rfl, hb4⟩
        go_wp2_with fail
        all_goals
          go_ret
          exact ⟨ret_bool (by have := HQ.out; simp <;> omega), hB.trans (hb4.mono hB.size)⟩
theorem own : ownKnob Try.prog.godebug = none := by kernel_rfl
theorem laid : laidOutB Try.prog = true := by kernel_rfl

set_option maxRecDepth 100000 in
theorem lifted (os : Os) (started : os.Started) (H : Type) (enc : TypeId × Value → H) :
    ReturnsInHanded {} Try.checked os 5 .any (Rows.detectEvenSpec.pre6 enc Try.prog Try.f5 Rows.detectEvenRow.domain false) (Rows.detectEvenSpec.post enc Try.prog Try.f5 false true false false) := by
  refine law_lifted (C := Try.checked) (B := 4) own started (by kernel_rfl) Try.func5
    (ChangeSpec.witness6 (enc := enc) (C := Try.checked) false ⟨#[], #[.int .i64 0, .int .i64 0], []⟩ 8 (by kernel_rfl) (by kernel_rfl) (by kernel_rfl) (by kernel_rfl))
    rfl rfl Try.underlying4 laid (of_decide_eq_true (by kernel_rfl)) ?_ ?_
  · intro ds hl
    rw [Try.params5] at hl
    match ds, hl with
    | [d0, d1], _ => rfl
  · intro W base args ds ps hval hA hlt hz
    rw [Try.params5] at hA hval
    obtain ⟨v0, vs0, d0, ds0, p0, q0, hargs, rfl, rfl, h0, r0⟩ := trodAll_cons hA
    obtain ⟨v1, vs1, d1, ds1, p1, q1, rfl, rfl, rfl, h1, r1⟩ := trodAll_cons r0
    obtain ⟨rfl, rfl, rfl⟩ := trodAll_nil r1
    obtain rfl : args = #[v0, v1] := by cases args; simp_all
    obtain ⟨a0, rfl, rfl, rfl, w0⟩ := open_int Try.underlying3 (hval 0 3 v0 rfl rfl) h0
    obtain ⟨a1, rfl, rfl, rfl, w1⟩ := open_int Try.underlying3 (hval 1 3 v1 rfl rfl) h1
    exact walk W a0 w0 a1 w1

theorem over : Rows.detectEvenRow.holds Try.pinned (OpenSpec.ofChange Rows.detectEvenSpec) :=
  OpenClaim.holds_of_wide 5 Try.f5 rfl rfl rfl rfl rfl rfl rfl ⟨rfl, rfl, rfl, rfl, rfl⟩ rfl rfl rfl rfl rfl (by kernel_rfl) Try.func5 (by kernel_rfl)
    (of_decide_eq_true (by kernel_rfl)) (by unfold Func.isWrapper; first | (rw [if_pos (by decide +kernel)]; kernel_rfl) | (rw [if_neg (by decide +kernel)]; exact ⟨rfl, rfl⟩))
    (fun os started H enc _ => lifted os started H enc)

theorem proved : Rows.DetectEvenSaid := over
#print axioms proved
end Go.Proofs.Ytljenpfccmfnbaa.detectEven
