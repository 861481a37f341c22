/- DetectForgets holds for any two right rows, and any more beats: only the last eight beats count. No condition. -/
import Derived.Test.YtljenpfccmfnbaaDet5
import Derived.Test.YtljenpfccmfnbaaDetMath3
import Derived.Deep.RegionHeld3
namespace Go.Proofs.Ytljenpfccmfnbaa.detectForgets
open Go.ChangeShapes Go.WideShapes Go.ChangeAt Go.RowKit

set_option maxRecDepth 10000 in
set_option maxHeartbeats 4000000 in
theorem walk (w : World) (A : Option Addr) (n cap : Nat) (l : Det.Row) (hl : n ≤ cap) (hm : cap ≤ maxLen) (hn : l.length = n) (hN : Beats w A l) (hw : ∀ p ∈ l, (-9223372036854775808 ≤ p.1 ∧ p.1 ≤ 9223372036854775807) ∧ -9223372036854775808 ≤ p.2 ∧ p.2 ≤ 9223372036854775807)
    (A1 : Option Addr) (n1 cap1 : Nat) (l1 : Det.Row) (hl1 : n1 ≤ cap1) (hm1 : cap1 ≤ maxLen) (hn1 : l1.length = n1) (hN1 : Beats w A1 l1) (hw1 : ∀ p ∈ l1, (-9223372036854775808 ≤ p.1 ∧ p.1 ≤ 9223372036854775807) ∧ -9223372036854775808 ≤ p.2 ∧ p.2 ≤ 9223372036854775807)
    (A2 : Option Addr) (n2 cap2 : Nat) (l2 : Det.Row) (hl2 : n2 ≤ cap2) (hm2 : cap2 ≤ maxLen) (hn2 : l2.length = n2) (hN2 : Beats w A2 l2) (hw2 : ∀ p ∈ l2, (-9223372036854775808 ≤ p.1 ∧ p.1 ≤ 9223372036854775807) ∧ -9223372036854775808 ≤ p.2 ∧ p.2 ≤ 9223372036854775807) :
    Calls Try.prog 8 #[.slice A n cap, .slice A1 n1 cap1, .slice A2 n2 cap2] w fun e w' => e = .returned (.bool true) ∧ Below w.heap.size w w' := by
  unfold maxLen at hm hm1 hm2
  have hnb : n ≤ 9223372036854775807 := by omega
  have hnb1 : n1 ≤ 9223372036854775807 := by omega
  have hnb2 : n2 ≤ 9223372036854775807 := by omega
  have Hn := Lib.hid hn
  have HN := Lib.hid hN
  have Hn1 := Lib.hid hn1
  have HN1 := Lib.hid hN1
  have Hn2 := Lib.hid hn2
  have HN2 := Lib.hid hN2
  clear hn hN hn1 hN1 hn2 hN2 hw hw1 hw2 hl hl1 hl2 hm hm1 hm2
  by_cases h5 : 100 < n2
  · have h5' : (100 : Int) < n2 := by omega
    go_enter Try.func8, Try.ntmps8
    go_wp2_with fail
    refine (small_any _).mono ?_
    rintro e w1 ⟨rfl, B1⟩
    go_wp2_with fail
    go_ret
    exact ⟨rfl, B1⟩
  · have h5' : (n2 : Int) ≤ 100 := by omega
    by_cases hr : Det.right l = true
    · by_cases hr1 : Det.right l1 = true
      · have Hr := Lib.hid hr
        have Hr1 := Lib.hid hr1
        have hr8 := Det.right_len hr
        rw [Hn.out] at hr8
        have hr9 := Det.right_len hr1
        rw [Hn1.out] at hr9
        clear hr hr1
        go_enter Try.func8, Try.ntmps8
        go_wp2_with fail
        refine (small_any _).mono ?_
        rintro e w1 ⟨rfl, B1⟩
        go_wp2_with fail
        refine (right_to Hr.out Hn.out (HN.out.below B1) hnb).mono ?_
        rintro e w2 ⟨rfl, hb⟩
        have B2 := B1.trans (hb.mono B1.size)
        clear hb B1
        go_wp2_with fail
        refine (right_to Hr1.out Hn1.out (HN1.out.below B2) hnb1).mono ?_
        rintro e w3 ⟨rfl, hb⟩
        have B3 := B2.trans (hb.mono B2.size)
        clear hb B2
        go_wp2_with fail
        go_loopw [0, 1, 8, 9] (fun v v1 s i wr => ∃ (k : Nat) (L M : Det.Row) (B C : Option Addr) (c d m q : Nat), k ≤ n2 ∧ i = .int .i64 k ∧ s = .int .i64 k ∧ v = .slice B m c ∧ v1 = .slice C q d ∧ L.length = m ∧ M.length = q ∧ Det.right L = true ∧ Det.right M = true ∧ Beats wr B L ∧ Beats wr C M ∧ Det.Alike k L M ∧ Below w.heap.size w wr) (fun _ _ _ i _ => n2 - (intOf i).toNat)
        case atStart => exact ⟨0, l, l1, A, A1, cap, cap1, n, n1, Nat.zero_le _, rfl, rfl, rfl, rfl, Hn.out, Hn1.out, Hr.out, Hr1.out, HN.out.below B3, HN1.out.below B3, Det.alike_0 _ _, B3⟩
        case round =>
          obtain ⟨k, L, M, B, C, c, d, m, q, hk, rfl, rfl, rfl, rfl, hL, hM, hRL, hRM, hNL, hNM, hA, hB⟩ := hrel
          have HL := Lib.hid hL
          have HM := Lib.hid hM
          have HRL := Lib.hid hRL
          have HRM := Lib.hid hRM
          have HNL := Lib.hid hNL
          have HNM := Lib.hid hNM
          have HAL := Lib.hid hA
          have lm := Det.right_len hRL
          have lq := Det.right_len hRM
          rw [hL] at lm
          rw [hM] at lq
          clear B3 hL hM hRL hRM hNL hNM hA
          by_cases hkn : k < n2
          · obtain ⟨b1, off1, rfl, hb1, hc1⟩ := HN2.out.at (by rw [Hn2.out]; omega)
            obtain ⟨g0, g1⟩ := hc1 k (by rw [Hn2.out]; exact hkn)
            have v0 : wr.drew.cell? ⟨b1, off1 + k * 2, none⟩ = _ := (hB.cell (p := ⟨b1, off1 + k * 2, none⟩) hb1).trans g0
            have v1 : wr.drew.cell? ⟨b1, off1 + k * 2 + 1, none⟩ = _ := (hB.cell (p := ⟨b1, off1 + k * 2 + 1, none⟩) hb1).trans g1
            generalize l2.getD k (0, 0) = p at v0 v1 g0 g1
            obtain ⟨pa, pb⟩ := p
            simp only at v0 v1 g0 g1
            have q1 : (k : Int) < (n2 : Int) := by omega
            have q0 : (0 : Int) ≤ (k : Int) := by omega
            have rL := Det.beat_right (seq := pa) (now := pb) HRL.out
            have rM := Det.beat_right (seq := pa) (now := pb) HRM.out
            have lL := Det.right_len rL
            have lM := Det.right_len rM
            have hpush := Lib.hid (fun (h1 : Det.may L pa pb = true) (h2 : Det.may M pa pb = true) => show Det.Alike (k + 1) (Det.beat L pa pb) (Det.beat M pa pb) by
              rw [Det.beat_yes h1, Det.beat_yes h2]
              exact Det.alike_push HAL.out (by rw [HL.out]; exact lm.2) (by rw [HM.out]; exact lq.2) _ _)
            obtain ⟨L', hL'⟩ : ∃ x, Det.beat L pa pb = x := ⟨_, rfl⟩
            obtain ⟨M', hM'⟩ : ∃ x, Det.beat M pa pb = x := ⟨_, rfl⟩
            obtain ⟨m', hm'⟩ : ∃ x, L'.length = x := ⟨_, rfl⟩
            obtain ⟨q', hq'⟩ : ∃ x, M'.length = x := ⟨_, rfl⟩
            obtain ⟨x1, hx1⟩ : ∃ x, Det.may L pa pb = x := ⟨_, rfl⟩
            obtain ⟨x2, hx2⟩ : ∃ x, Det.may M pa pb = x := ⟨_, rfl⟩
            rw [hL', hM', hx1, hx2] at hpush
            rw [hL'] at rL lL
            rw [hM'] at rM lM
            rw [hm'] at lL
            rw [hq'] at lM
            have HL' := Lib.hid hL'
            have HM' := Lib.hid hM'
            have Hm' := Lib.hid hm'
            have Hq' := Lib.hid hq'
            have Hx1 := Lib.hid hx1
            have Hx2 := Lib.hid hx2
            have HrL := Lib.hid rL
            have HrM := Lib.hid rM
            have BD : Below w.heap.size w wr.drew := below_drewN hB 1
            have G0 := Lib.hid g0
            have G1 := Lib.hid g1
            clear hL' hM' hm' hq' hx1 hx2 rL rM hc1 hB g0 g1
            go_wp2_with fail
            go_region_held3 (fun W => W.cell? ⟨b1, off1 + k * 2, none⟩ = some (.int .i64 pa) ∧ W.cell? ⟨b1, off1 + k * 2 + 1, none⟩ = some (.int .i64 pb))
              (first | exact ⟨v0, v1⟩ | exact ⟨x0, y0⟩ | go_keep)
              (first
              | (go_at_call 15; refine (beat_to HL'.out Hx1.out Hm'.out HL.out (show Beats wr.drew B L from HNL.out) (by omega)).mono ?_; rintro e w4 ⟨A4, c4, rfl, hO4, hb4⟩; have B4 := BD.trans (hb4.mono BD.size); have x0 := (B4.cell (p := ⟨b1, off1 + k * 2, none⟩) hb1).trans G0.out; have y0 := (B4.cell (p := ⟨b1, off1 + k * 2 + 1, none⟩) hb1).trans G1.out))
            have N4 := hO4.beats
            have M4 := Lib.hid (Beats.below (show Beats wr.drew C M from HNM.out) hb4)
            have BE : Below w.heap.size w w4.drew := below_drewN B4 1
            have z0 : w4.drew.cell? ⟨b1, off1 + k * 2, none⟩ = some (.int .i64 pa) := x0
            have z1 : w4.drew.cell? ⟨b1, off1 + k * 2 + 1, none⟩ = some (.int .i64 pb) := y0
            clear hO4 hb4 BD v0 v1 x0 y0
            go_wp2_with fail
            go_region_held3 (fun W => W.cell? ⟨b1, off1 + k * 2, none⟩ = some (.int .i64 pa) ∧ W.cell? ⟨b1, off1 + k * 2 + 1, none⟩ = some (.int .i64 pb))
              (first | exact ⟨z0, z1⟩ | exact ⟨x0, y0⟩ | go_keep)
              (first
              | (go_at_call 15; refine (beat_to HM'.out Hx2.out Hq'.out HM.out (show Beats w4.drew C M from M4.out) (by omega)).mono ?_; rintro e w5 ⟨A5, c5, rfl, hO5, hb5⟩; have B5 := BE.trans (hb5.mono BE.size); have x0 := (B5.cell (p := ⟨b1, off1 + k * 2, none⟩) hb1).trans G0.out; have y0 := (B5.cell (p := ⟨b1, off1 + k * 2 + 1, none⟩) hb1).trans G1.out))
            have M5 := hO5.beats
            have N5 := Beats.below (show Beats w4.drew A4 L' from N4) hb5
            clear hO5 hb5 BE z0 z1 x0 y0 N4 M4
            have hcase : x1 = false ∨ (x1 = true ∧ x2 = false) ∨ (x1 = true ∧ x2 = true) := by cases x1 <;> cases x2 <;> simp
            rcases hcase with rfl | ⟨rfl, rfl⟩ | ⟨rfl, rfl⟩
            · go_wp2_with fail
              go_ret
              exact ⟨rfl, B5⟩
            · go_wp2_with fail
              go_ret
              exact ⟨rfl, B5⟩
            · have hAn := hpush.out rfl rfl
              by_cases h8 : k + 1 < 8
              · have HAn := Lib.hid hAn
                have h8' : (k : Int) + 1 < 8 := by omega
                clear hAn
                go_wp2_with fail
                go_roundw
                case rel => exact ⟨k + 1, L', M', A4, A5, c4, c5, m', q', by omega, by go_num, by go_num, rfl, rfl, Hm'.out, Hq'.out, HrL.out, HrM.out, N5, M5, HAn.out, B5⟩
                case measure => simp [intOf]; omega
              · have heq := Det.alike_end hAn (by omega) (by rw [Hm'.out]; exact lL.2) (by rw [Hq'.out]; exact lM.2)
                have hmq : m' = q' := by rw [← Hm'.out, ← Hq'.out, heq]
                have HEQ := Lib.hid heq
                have HAn := Lib.hid hAn
                have HMQ := Lib.hid hmq
                obtain ⟨dl, hdl⟩ : ∃ x, Det.deadline L' = x := ⟨_, rfl⟩
                have HDL := Lib.hid hdl
                have HDM := Lib.hid (show Det.deadline M' = dl by rw [← heq]; exact hdl)
                have h8' : (8 : Int) ≤ (k : Int) + 1 := by omega
                clear hAn heq hmq hdl
                go_wp2_with fail
                refine (same_to (r := true) (decide_eq_true HEQ.out) Hm'.out Hq'.out N5 M5 (by omega)).mono ?_
                rintro e w6 ⟨rfl, hb6⟩
                have N6 := N5.below hb6
                have M6 := M5.below hb6
                have B6 := B5.trans (hb6.mono B5.size)
                clear hb6 N5 M5 B5
                go_wp2_with fail
                refine (deadline_to HDL.out Hm'.out N6 (by omega) (by omega)).mono ?_
                rintro e w7 ⟨rfl, hb7⟩
                have N7 := N6.below hb7
                have M7 := M6.below hb7
                have B7 := B6.trans (hb7.mono B6.size)
                clear hb7 N6 M6 B6
                go_wp2_with fail
                refine (deadline_to HDM.out Hq'.out M7 (by omega) (by omega)).mono ?_
                rintro e w8 ⟨rfl, hb8⟩
                have N8 := N7.below hb8
                have M8 := M7.below hb8
                have B8 := B7.trans (hb8.mono B7.size)
                clear hb8 N7 M7 B7
                go_wp2_with fail
                go_roundw
                case rel => exact ⟨k + 1, L', M', A4, A5, c4, c5, m', q', by omega, by go_num, by go_num, rfl, rfl, Hm'.out, Hq'.out, HrL.out, HrM.out, N8, M8, HAn.out, B8⟩
                case measure => simp [intOf]; omega
          · obtain rfl : k = n2 := by omega
            go_wp2_with fail
            go_ret
            exact ⟨rfl, hB⟩
      · have hr' : Det.right l1 = false := by simpa using hr1
        have Hr := Lib.hid hr
        have Hr1 := Lib.hid hr'
        clear hr hr1 hr'
        go_enter Try.func8, Try.ntmps8
        go_wp2_with fail
        refine (small_any _).mono ?_
        rintro e w1 ⟨rfl, B1⟩
        go_wp2_with fail
        refine (right_to Hr.out Hn.out (HN.out.below B1) hnb).mono ?_
        rintro e w2 ⟨rfl, hb⟩
        have B2 := B1.trans (hb.mono B1.size)
        clear hb B1
        go_wp2_with fail
        refine (right_to Hr1.out Hn1.out (HN1.out.below B2) hnb1).mono ?_
        rintro e w3 ⟨rfl, hb⟩
        go_wp2_with fail
        go_ret
        exact ⟨rfl, B2.trans (hb.mono B2.size)⟩
    · have hr' : Det.right l = false := by simpa using hr
      have Hr := Lib.hid hr'
      clear hr hr'
      go_enter Try.func8, Try.ntmps8
      go_wp2_with fail
      refine (small_any _).mono ?_
      rintro e w1 ⟨rfl, B1⟩
      go_wp2_with fail
      refine (right_to Hr.out Hn.out (HN.out.below B1) hnb).mono ?_
      rintro e w2 ⟨rfl, hb⟩
      go_wp2_with fail
      go_ret
      exact ⟨rfl, B1.trans (hb.mono B1.size)⟩
theorem own : ownKnob Try.prog.godebug = none := by kernel_rfl
theorem laid : laidOutB Try.prog = true := by kernel_rfl

set_option maxRecDepth 100000 in
theorem lifted (os : Os) (started : os.Started) (H : Type) (enc : TypeId × Value → H) :
    ReturnsInHanded {} Try.checked os 8 .any (Rows.detectForgetsSpec.pre6 enc Try.prog Try.f8 Rows.detectForgetsRow.domain false) (Rows.detectForgetsSpec.post enc Try.prog Try.f8 false true false false) := by
  refine law_lifted (C := Try.checked) (B := 4) own started (by kernel_rfl) Try.func8
    (ChangeSpec.witness6 (enc := enc) (C := Try.checked) false ⟨#[], #[.slice none 0 0, .slice none 0 0, .slice none 0 0], []⟩ 8 (by kernel_rfl) (by kernel_rfl) (by kernel_rfl) (by kernel_rfl))
    rfl rfl Try.underlying4 laid (of_decide_eq_true (by kernel_rfl)) ?_ ?_
  · intro ds hl
    rw [Try.params8] at hl
    match ds, hl with
    | [d0, d1, d2], _ => rfl
  · intro W base args ds ps hval hA hlt hz
    rw [Try.params8] at hA hval
    obtain ⟨v0, vs0, d0, ds0, p0, q0, hargs, rfl, rfl, h0, r0⟩ := trodAll_cons hA
    obtain ⟨v1, vs1, d1, ds1, p1, q1, rfl, rfl, rfl, h1, r1⟩ := trodAll_cons r0
    obtain ⟨v2, vs2, d2, ds2, p2, q2, rfl, rfl, rfl, h2, r2⟩ := trodAll_cons r1
    obtain ⟨rfl, rfl, rfl⟩ := trodAll_nil r2
    obtain rfl : args = #[v0, v1, v2] := by cases args; simp_all
    obtain ⟨A0, n0, cap0, l0, rfl, hl0, hm0, hn0, hN0, hw0⟩ := open_beats (hval 0 22 v0 rfl rfl) h0
    obtain ⟨A1, n1, cap1, l1, rfl, hl1, hm1, hn1, hN1, hw1⟩ := open_beats (hval 1 22 v1 rfl rfl) h1
    obtain ⟨A2, n2, cap2, l2, rfl, hl2, hm2, hn2, hN2, hw2⟩ := open_beats (hval 2 22 v2 rfl rfl) h2
    exact walk W A0 n0 cap0 l0 hl0 hm0 hn0 hN0 hw0 A1 n1 cap1 l1 hl1 hm1 hn1 hN1 hw1 A2 n2 cap2 l2 hl2 hm2 hn2 hN2 hw2

theorem over : Rows.detectForgetsRow.holds Try.pinned (OpenSpec.ofChange Rows.detectForgetsSpec) :=
  OpenClaim.holds_of_wide 8 Try.f8 rfl rfl rfl rfl rfl rfl rfl ⟨rfl, rfl, rfl, rfl, rfl⟩ rfl rfl rfl rfl rfl (by kernel_rfl) Try.func8 (by kernel_rfl)
    (of_decide_eq_true (by kernel_rfl)) (by unfold Func.isWrapper; first | (rw [if_pos (by decide +kernel)]; kernel_rfl) | (rw [if_neg (by decide +kernel)]; exact ⟨rfl, rfl⟩))
    (fun os started H enc _ => lifted os started H enc)

theorem proved : Rows.DetectForgetsSaid := over
#print axioms proved
end Go.Proofs.Ytljenpfccmfnbaa.detectForgets
