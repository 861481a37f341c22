/- DetectLater holds for any right beats, any number, any two times: who beats later is not awaited earlier. No condition. -/
import Derived.Test.YtljenpfccmfnbaaDet5
import Derived.Test.YtljenpfccmfnbaaDetMath2
import Derived.BigQuiet
namespace Go.Proofs.Ytljenpfccmfnbaa.detectLater
open Go.ChangeShapes Go.WideShapes Go.ChangeAt Go.RowKit

set_option maxRecDepth 10000 in
set_option maxHeartbeats 4000000 in
theorem walk (w : World) (A : Option Addr) (n cap : Nat) (l : Det.Row) (hl : n ≤ cap) (hm : cap ≤ maxLen) (hn : l.length = n) (hN : Beats w A l) (hw : ∀ p ∈ l, (-9223372036854775808 ≤ p.1 ∧ p.1 ≤ 9223372036854775807) ∧ -9223372036854775808 ≤ p.2 ∧ p.2 ≤ 9223372036854775807)
    (seq : Int) (w1 : (Lit.int .i64 seq).wf = true) (now : Int) (w2 : (Lit.int .i64 now).wf = true) (later : Int) (w3 : (Lit.int .i64 later).wf = true) :
    Calls Try.prog 7 #[.slice A n cap, .int .i64 seq, .int .i64 now, .int .i64 later] w fun e w' => e = .returned (.bool true) ∧ Below w.heap.size w w' := by
  unfold maxLen at hm
  have hnb : n ≤ 9223372036854775807 := by omega
  have Hn := Lib.hid hn
  have HN := Lib.hid hN
  clear hw hl hm w1 w2 w3 hn hN
  by_cases hr : Det.right l = true
  · have hr8 := Det.right_len hr
    rw [Hn.out] at hr8
    have Hr := Lib.hid hr
    clear hr
    by_cases hlt : later < now
    · go_enter Try.func7, Try.ntmps7
      go_wp2_with fail
      refine (small_any _).mono ?_
      rintro e w1 ⟨rfl, B1⟩
      go_wp2_with fail
      refine (right_to Hr.out Hn.out (HN.out.below B1) hnb).mono ?_
      rintro e w2 ⟨rfl, hb⟩
      go_wp2_with fail
      go_ret
      exact ⟨rfl, B1.trans (hb.mono B1.size)⟩
    · have hle : now ≤ later := by omega
      have b1 := Det.beat_right (seq := seq) (now := now) Hr.out
      have b2 := Det.beat_right (seq := seq) (now := later) Hr.out
      have l1 := Det.right_len b1
      have l2 := Det.right_len b2
      have hfact : (Det.may l seq now = false) ∨ (Det.may l seq now = true ∧ Det.may l seq later = false ∧ 1099511627776 < later) ∨ (Det.may l seq now = true ∧ Det.may l seq later = true ∧ Det.deadline (Det.beat l seq now) ≤ Det.deadline (Det.beat l seq later)) := by
        cases h1 : Det.may l seq now
        · exact Or.inl rfl
        · have m1 := (Det.may_of l seq now).1 h1
          cases h2 : Det.may l seq later
          · refine Or.inr (Or.inl ⟨rfl, rfl, ?_⟩)
            by_cases h : 1099511627776 < later
            · exact h
            · have := (Det.may_of l seq later).2 (by omega)
              rw [h2] at this
              cases this
          · refine Or.inr (Or.inr ⟨rfl, rfl, ?_⟩)
            rw [Det.beat_yes h1, Det.beat_yes h2]
            exact Det.later_le hle
      obtain ⟨a, ha⟩ : ∃ a, Det.beat l seq now = a := ⟨_, rfl⟩
      obtain ⟨c, hc⟩ : ∃ c, Det.beat l seq later = c := ⟨_, rfl⟩
      obtain ⟨na, hna⟩ : ∃ na, a.length = na := ⟨_, rfl⟩
      obtain ⟨nc, hnc⟩ : ∃ nc, c.length = nc := ⟨_, rfl⟩
      obtain ⟨da, hda⟩ : ∃ da, Det.deadline a = da := ⟨_, rfl⟩
      obtain ⟨dc, hdc⟩ : ∃ dc, Det.deadline c = dc := ⟨_, rfl⟩
      obtain ⟨m1, hm1⟩ : ∃ m, Det.may l seq now = m := ⟨_, rfl⟩
      obtain ⟨m2, hm2⟩ : ∃ m, Det.may l seq later = m := ⟨_, rfl⟩
      rw [ha, hc, hm1, hm2, hda, hdc] at hfact
      rw [ha, hna] at l1
      rw [hc, hnc] at l2
      have HA := Lib.hid ha
      have HC := Lib.hid hc
      have HNA := Lib.hid hna
      have HNC := Lib.hid hnc
      have HDA := Lib.hid hda
      have HDC := Lib.hid hdc
      have HM1 := Lib.hid hm1
      have HM2 := Lib.hid hm2
      have hle' : ¬ later < now := hlt
      clear ha hc hna hnc hda hdc hm1 hm2 b1 b2 hlt
      go_enter Try.func7, Try.ntmps7
      go_wp2_with fail
      refine (small_any _).mono ?_
      rintro e w1 ⟨rfl, B1⟩
      go_wp2_with fail
      refine (right_to Hr.out Hn.out (HN.out.below B1) hnb).mono ?_
      rintro e w2 ⟨rfl, hb⟩
      have B2 := B1.trans (hb.mono B1.size)
      clear hb B1
      go_wp2_with fail
      refine (beat_to HA.out HM1.out HNA.out Hn.out (HN.out.below B2) (by omega)).mono ?_
      rintro e w3 ⟨A3, c3, rfl, hO3, hb3⟩
      have B3 := B2.trans (hb3.mono B2.size)
      have N3 := hO3.beats
      clear hO3 hb3 B2
      go_wp2_with fail
      refine (beat_to HC.out HM2.out HNC.out Hn.out (HN.out.below B3) (by omega)).mono ?_
      rintro e w4 ⟨A4, c4, rfl, hO4, hb4⟩
      have B4 := B3.trans (hb4.mono B3.size)
      have N4 := hO4.beats
      have N3' := N3.below hb4
      clear hO4 hb4 B3 N3
      rcases hfact with rfl | ⟨rfl, rfl, h⟩ | ⟨rfl, rfl, h⟩
      · go_wp2_with fail
        go_ret
        exact ⟨rfl, B4⟩
      · go_wp2_with fail
        go_ret
        exact ⟨rfl, B4⟩
      · go_wp2_with fail
        refine (deadline_to HDA.out HNA.out N3' (by omega) (by omega)).mono ?_
        rintro e w5 ⟨rfl, hb5⟩
        have B5 := B4.trans (hb5.mono B4.size)
        have N5 := N4.below hb5
        clear B4 N4 hb5 N3'
        go_wp2_with fail
        refine (deadline_to HDC.out HNC.out N5 (by omega) (by omega)).mono ?_
        rintro e w6 ⟨rfl, hb6⟩
        have B6 := B5.trans (hb6.mono B5.size)
        clear B5 N5 hb6
        go_wp2_with fail
        all_goals (go_ret; exact ⟨rfl, B6⟩)
  · have hr' : Det.right l = false := by simpa using hr
    have Hr := Lib.hid hr'
    clear hr hr'
    go_enter Try.func7, Try.ntmps7
    go_wp2_with fail
    refine (small_any _).mono ?_
    rintro e w1 ⟨rfl, B1⟩
    go_wp2_with fail
    refine (right_to Hr.out Hn.out (HN.out.below B1) hnb).mono ?_
    rintro e w2 ⟨rfl, hb⟩
    go_wp2_with fail
    go_ret
    exact ⟨rfl, B1.trans (hb.mono B1.size)⟩
theorem own : ownKnob Try.prog.godebug = none := by kernel_rfl
theorem laid : laidOutB Try.prog = true := by kernel_rfl

set_option maxRecDepth 100000 in
theorem lifted (os : Os) (started : os.Started) (H : Type) (enc : TypeId × Value → H) :
    ReturnsInHanded {} Try.checked os 7 .any (Rows.detectLaterSpec.pre6 enc Try.prog Try.f7 Rows.detectLaterRow.domain false) (Rows.detectLaterSpec.post enc Try.prog Try.f7 false true false false) := by
  refine law_lifted (C := Try.checked) (B := 4) own started (by kernel_rfl) Try.func7
    (ChangeSpec.witness6 (enc := enc) (C := Try.checked) false ⟨#[], #[.slice none 0 0, .int .i64 0, .int .i64 0, .int .i64 0], []⟩ 8 (by kernel_rfl) (by kernel_rfl) (by kernel_rfl) (by kernel_rfl))
    rfl rfl Try.underlying4 laid (of_decide_eq_true (by kernel_rfl)) ?_ ?_
  · intro ds hl
    rw [Try.params7] at hl
    match ds, hl with
    | [d0, d1, d2, d3], _ => rfl
  · intro W base args ds ps hval hA hlt hz
    rw [Try.params7] at hA hval
    obtain ⟨v0, vs0, d0, ds0, p0, q0, hargs, rfl, rfl, h0, r0⟩ := trodAll_cons hA
    obtain ⟨v1, vs1, d1, ds1, p1, q1, rfl, rfl, rfl, h1, r1⟩ := trodAll_cons r0
    obtain ⟨v2, vs2, d2, ds2, p2, q2, rfl, rfl, rfl, h2, r2⟩ := trodAll_cons r1
    obtain ⟨v3, vs3, d3, ds3, p3, q3, rfl, rfl, rfl, h3, r3⟩ := trodAll_cons r2
    obtain ⟨rfl, rfl, rfl⟩ := trodAll_nil r3
    obtain rfl : args = #[v0, v1, v2, v3] := by cases args; simp_all
    obtain ⟨A0, n0, cap0, l0, rfl, hl0, hm0, hn0, hN0, hw0⟩ := open_beats (hval 0 22 v0 rfl rfl) h0
    obtain ⟨a1, rfl, rfl, rfl, w1⟩ := open_int Try.underlying3 (hval 1 3 v1 rfl rfl) h1
    obtain ⟨a2, rfl, rfl, rfl, w2⟩ := open_int Try.underlying3 (hval 2 3 v2 rfl rfl) h2
    obtain ⟨a3, rfl, rfl, rfl, w3⟩ := open_int Try.underlying3 (hval 3 3 v3 rfl rfl) h3
    exact walk W A0 n0 cap0 l0 hl0 hm0 hn0 hN0 hw0 a1 w1 a2 w2 a3 w3

theorem over : Rows.detectLaterRow.holds Try.pinned (OpenSpec.ofChange Rows.detectLaterSpec) :=
  OpenClaim.holds_of_wide 7 Try.f7 rfl rfl rfl rfl rfl rfl rfl ⟨rfl, rfl, rfl, rfl, rfl⟩ rfl rfl rfl rfl rfl (by kernel_rfl) Try.func7 (by kernel_rfl)
    (of_decide_eq_true (by kernel_rfl)) (by unfold Func.isWrapper; first | (rw [if_pos (by decide +kernel)]; kernel_rfl) | (rw [if_neg (by decide +kernel)]; exact ⟨rfl, rfl⟩))
    (fun os started H enc _ => lifted os started H enc)

theorem proved : Rows.DetectLaterSaid := over
#print axioms proved
end Go.Proofs.Ytljenpfccmfnbaa.detectLater
