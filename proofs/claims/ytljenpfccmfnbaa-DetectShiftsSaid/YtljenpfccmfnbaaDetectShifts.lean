/- DetectShifts holds for any right beats up to 2^30, by how much, up to 2^30: the deadline moves as all beats do. No condition. -/
import Derived.Test.YtljenpfccmfnbaaDet5
import Derived.Test.YtljenpfccmfnbaaDetMath3
import Derived.Test.YtljenpfccmfnbaaRecs2
import Derived.Test.YtljenpfccmfnbaaTail2
import Derived.Deep.RegionLaw
namespace Go.Proofs.Ytljenpfccmfnbaa.detectShifts
open Go.ChangeShapes Go.WideShapes Go.ChangeAt Go.RowKit

theorem shift_snoc (k : Int) (l : Det.Row) (t : Nat) (h : t < l.length) : flat (Det.shift k (l.take (t + 1))) = flat (Det.shift k (l.take t)) ++ [(l.getD t (0, 0)).1, (l.getD t (0, 0)).2 + k] := by
  have e : l.getD t (0, 0) = l[t] := by simp [List.getD, h]
  unfold Det.shift
  rw [e, List.take_succ_eq_append_getElem h, List.map_append, flat_app]
  rfl

set_option maxRecDepth 10000 in
set_option maxHeartbeats 4000000 in
theorem walk (w : World) (A : Option Addr) (n cap : Nat) (l : Det.Row) (hl : n ≤ cap) (hm : cap ≤ maxLen) (hn : l.length = n) (hN : Beats w A l) (hw : ∀ p ∈ l, (-9223372036854775808 ≤ p.1 ∧ p.1 ≤ 9223372036854775807) ∧ -9223372036854775808 ≤ p.2 ∧ p.2 ≤ 9223372036854775807)
    (k : Int) (w1 : (Lit.int .i64 k).wf = true) :
    Calls Try.prog 6 #[.slice A n cap, .int .i64 k] w fun e w' => e = .returned (.bool true) ∧ Below w.heap.size w w' := by
  unfold maxLen at hm
  have hnb : n ≤ 9223372036854775807 := by omega
  have Hn := Lib.hid hn
  have HN := Lib.hid hN
  clear hw hl hm w1 hn hN
  by_cases hr : Det.right l = true
  · have hr8 := Det.right_len hr
    have hr2 := Det.right_last hr
    obtain ⟨b, off, rfl, hb, hc⟩ := HN.out.at hr8.1
    rw [Hn.out] at hr8 hc
    obtain ⟨t, rfl⟩ : ∃ t, n = t + 1 := ⟨n - 1, by omega⟩
    obtain ⟨g0, -⟩ := hc 0 (by omega)
    obtain ⟨d0, -⟩ := hc t (by omega)
    have e0 : l.getD t (0, 0) = Det.last l := by unfold Det.last; rw [Hn.out]; rfl
    have hf := Det.rf_all l 0 0 ((Det.right_of l).1 hr).2.2 (l.getD 0 (0, 0)) (by simp [List.getD, show 0 < l.length by rw [Hn.out]; omega])
    rw [e0] at d0
    have Hr := Lib.hid hr
    have HS := Lib.hid (fun (h0 : 0 ≤ k) (h1 : k ≤ 1073741824) (ha : ∀ p ∈ l, p.2 ≤ 1073741824) (hs : (Det.last l).1 - (l.getD 0 (0, 0)).1 ≤ 1048576) => Det.shift_deadline k h0 h1 ha hr hs)
    have HC := Lib.hid hc
    generalize Det.last l = y at d0 hr2 HS hf
    generalize l.getD 0 (0, 0) = x at g0 HS hf
    have e1 : IntKind.i64.wrap (((t + 1 : Nat) : Int) - 1) = (t : Int) := by rw [IntWalk.i64_in _ (by omega)]; omega
    have e2 : IntKind.i64.wrap (y.1 - x.1) = y.1 - x.1 := IntWalk.i64_in _ (by omega)
    have q3 : (t : Int) < ((t + 1 : Nat) : Int) := by omega
    have q2 : (0 : Int) ≤ (t : Int) := by omega
    have q4 : (0 : Int) < ((t + 1 : Nat) : Int) := by omega
    have x0 : decide (x.1 < 0) = false := decide_eq_false (by omega)
    rw [Nat.zero_mul, Nat.add_zero] at g0
    have hcase : k < 0 ∨ (0 ≤ k ∧ 1073741824 < k) ∨ (0 ≤ k ∧ k ≤ 1073741824 ∧ decide (1048576 < y.1 - x.1) = true) ∨ (0 ≤ k ∧ k ≤ 1073741824 ∧ decide (1048576 < y.1 - x.1) = false ∧ y.1 - x.1 ≤ 1048576) := by
      by_cases a : k < 0
      · exact Or.inl a
      · by_cases b : 1073741824 < k
        · exact Or.inr (Or.inl ⟨by omega, b⟩)
        · by_cases c : 1048576 < y.1 - x.1
          · exact Or.inr (Or.inr (Or.inl ⟨by omega, by omega, decide_eq_true c⟩))
          · exact Or.inr (Or.inr (Or.inr ⟨by omega, by omega, decide_eq_false c, by omega⟩))
    clear hr hc hf hr2 e0
    go_enter Try.func6, Try.ntmps6
    go_wp2_with fail
    refine (small_any _).mono ?_
    rintro e w1 ⟨rfl, B1⟩
    have B1' : Below w.heap.size w w1.drew := below_drewN B1 1
    have s0 : ∀ u : Over w.heap.size w, u.val.cell? ⟨b, off, none⟩ = _ := fun u => (u.below.cell (p := ⟨b, off, none⟩) hb).trans g0
    have s1 : ∀ u : Over w.heap.size w, u.val.cell? ⟨b, off + t * 2, none⟩ = _ := fun u => (u.below.cell (p := ⟨b, off + t * 2, none⟩) hb).trans d0
    clear g0 d0 B1
    rcases hcase with h | ⟨h0, h⟩ | ⟨h0, h1, h⟩ | ⟨h0, h1, h, h2⟩
    · have u : decide (k < 0) = true := decide_eq_true h
      go_wp2_with fail
      refine region_class (fun u : Over w.heap.size w => u.val) ⟨_, B1'⟩ rfl (by kernel_rfl) (by kernel_rfl) ?_
      repeat (go_big_quiet_step ((first
        | (go_at_call 10; exact over_left (Nat.le_refl _) (right_to Hr.out Hn.out (HN.out.below (Over.below _)) hnb))
        )))
      with_reducible refine wpQuiet_nil ?_
      rintro _ ⟨⟨w2, B2⟩, rfl⟩
      go_wp2
      go_ret
      exact ⟨rfl, B2⟩
    · have u : decide (k < 0) = false := decide_eq_false (by omega)
      have u2 : decide (1073741824 < k) = true := decide_eq_true h
      go_wp2_with fail
      refine region_class (fun u : Over w.heap.size w => u.val) ⟨_, B1'⟩ rfl (by kernel_rfl) (by kernel_rfl) ?_
      repeat (go_big_quiet_step ((first
        | (go_at_call 10; exact over_left (Nat.le_refl _) (right_to Hr.out Hn.out (HN.out.below (Over.below _)) hnb))
        )))
      with_reducible refine wpQuiet_nil ?_
      rintro _ ⟨⟨w2, B2⟩, rfl⟩
      go_wp2
      go_ret
      exact ⟨rfl, B2⟩
    · have u : decide (k < 0) = false := decide_eq_false (by omega)
      have u2 : decide (1073741824 < k) = false := decide_eq_false (by omega)
      go_wp2_with fail
      refine region_class (fun u : Over w.heap.size w => u.val) ⟨_, B1'⟩ rfl (by kernel_rfl) (by kernel_rfl) ?_
      repeat (go_big_quiet_step ((first
        | (go_at_call 10; exact over_left (Nat.le_refl _) (right_to Hr.out Hn.out (HN.out.below (Over.below _)) hnb))
        )))
      with_reducible refine wpQuiet_nil ?_
      rintro _ ⟨⟨w2, B2⟩, rfl⟩
      go_wp2
      go_ret
      exact ⟨rfl, B2⟩
    · have u : decide (k < 0) = false := decide_eq_false (by omega)
      have u2 : decide (1073741824 < k) = false := decide_eq_false (by omega)
      go_wp2_with fail
      refine region_class (fun u : Over w.heap.size w => u.val) ⟨_, B1'⟩ rfl (by kernel_rfl) (by kernel_rfl) ?_
      repeat (go_big_quiet_step ((first
        | (go_at_call 10; exact over_left (Nat.le_refl _) (right_to Hr.out Hn.out (HN.out.below (Over.below _)) hnb))
        )))
      with_reducible refine wpQuiet_nil ?_
      rintro _ ⟨⟨w2, B2⟩, rfl⟩
      clear s0 s1 u u2 h x0 e1 e2 q3 q2 q4
      obtain ⟨i0, hi, hz0, hz1, hz2⟩ := info_parts infoB
      have HI := Lib.hid (And.intro hi (And.intro hz0 (And.intro hz1 hz2)))
      clear hi hz0 hz1 hz2
      go_wp2_with fail
      go_loopw [6, 7] (fun v i wr => ∃ (j : Nat) (B : Option Addr) (c : Nat), j ≤ t + 1 ∧ i = .int .i64 j ∧ v = .slice B j c ∧ OwnB w.heap.size wr B j c (Det.shift k (l.take j)) ∧ (∀ p ∈ l.take j, p.2 ≤ 1073741824) ∧ Below w.heap.size w wr) (fun _ i _ => t + 1 - (intOf i).toNat)
      case atStart => exact ⟨0, none, 0, Nat.zero_le _, rfl, rfl, OwnR.nil B2.size, by simp, B2⟩
      case round =>
        obtain ⟨j, B, c, hj, rfl, rfl, hO, hall, hB⟩ := hrel
        have HO := Lib.hid hO
        have HA := Lib.hid hall
        clear B2 hO hall
        by_cases hjn : j < t + 1
        · obtain ⟨f0, f1⟩ := HC.out j hjn
          have c0 := (hB.cell (p := ⟨b, off + j * 2, none⟩) hb).trans f0
          have c1 := (hB.cell (p := ⟨b, off + j * 2 + 1, none⟩) hb).trans f1
          have Hsn := Lib.hid (shift_snoc k l j (by rw [Hn.out]; exact hjn))
          have HAn := Lib.hid (fun (h : (l.getD j (0, 0)).2 ≤ 1073741824) => show ∀ p ∈ l.take (j + 1), p.2 ≤ 1073741824 by
            have hjl : j < l.length := by rw [Hn.out]; exact hjn
            rw [List.take_succ_eq_append_getElem hjl]
            intro p hp
            rcases List.mem_append.1 hp with hp | hp
            · exact HA.out p hp
            · simp only [List.mem_singleton] at hp
              subst hp
              simpa [List.getD, hjl] using h)
          have hp0 := (Det.rf_all l 0 0 ((Det.right_of l).1 Hr.out).2.2 (l.getD j (0, 0)) (by simp [List.getD, show j < l.length by rw [Hn.out]; exact hjn])).2.1
          generalize l.getD j (0, 0) = p at c0 c1 Hsn HAn hp0
          obtain ⟨pa, pb⟩ := p
          simp only at c0 c1 hp0
          have q1 : (j : Int) < ((t + 1 : Nat) : Int) := by omega
          have q0 : (0 : Int) ≤ (j : Int) := by omega
          clear f0 f1
          by_cases hpb : 1073741824 < pb
          · go_wp2_with fail
            go_ret
            exact ⟨rfl, hB⟩
          · have e3 : IntKind.i64.wrap (pb + k) = pb + k := IntWalk.i64_in _ (by omega)
            go_wp2_with fail
            go_region_law (refine step_append_recs rfl (.tmp 56) (.tmp 70) 22 rfl i0 _ 16 Try.underlying22 HI.out.1 HI.out.2.1 HI.out.2.2.1 HI.out.2.2.2 (by decide) rfl (by decide) rfl (OwnR.below HO.out ((below_drewN (Below.refl wr.heap.size wr) 1).alloc (Nat.le_refl _) _)) _ 1 _ [pa, pb + k] rfl rfl (Nums.new _ _ _ _ _ rfl rfl) (by omega) w.heap.size w (Nat.le_refl _) ((below_drewN hB 1).alloc hB.size _) ?_; intro A2 c2 w3 hO2 hb2)
            all_goals
              go_wp2
              go_roundw
              case rel => exact ⟨j + 1, A2, c2, by omega, by go_num, rfl, by unfold OwnB; rw [Hsn.out]; exact hO2, HAn.out (by omega), hb2⟩
              case measure => simp [intOf]; omega
        · obtain rfl : j = t + 1 := by omega
          have et : l.take (t + 1) = l := List.take_of_length_le (by rw [Hn.out]; exact Nat.le_refl _)
          have hall := HA.out
          have hO := HO.out
          rw [et] at hall hO
          have HR2 := Lib.hid (Det.shift_right k h0 h1 hall Hr.out)
          obtain ⟨dl, hdl⟩ : ∃ d, Det.deadline l = d := ⟨_, rfl⟩
          have HD := Lib.hid hdl
          have HD2 := Lib.hid (show Det.deadline (Det.shift k l) = dl + k by rw [HS.out h0 h1 hall h2, hdl])
          have hbd := Det.deadline_bd Hr.out
          have hbd0 := Det.deadline_0 Hr.out
          rw [hdl] at hbd hbd0
          have e4 : IntKind.i64.wrap (dl + k) = dl + k := IntWalk.i64_in _ (by omega)
          have HL2 := Lib.hid (show (Det.shift k l).length = t + 1 by rw [Det.shift_len, Hn.out])
          have N2 := hO.beats
          clear hO hall et hdl hbd hbd0
          go_wp2_with fail
          refine (right_to HR2.out HL2.out N2 hnb).mono ?_
          rintro e w4 ⟨rfl, hb4⟩
          have N4 := N2.below hb4
          have B4 := hB.trans (hb4.mono hB.size)
          clear hb4 N2
          go_wp2_with fail
          refine (deadline_to HD2.out HL2.out N4 (by omega) (by omega)).mono ?_
          rintro e w5 ⟨rfl, hb5⟩
          have B5 := B4.trans (hb5.mono B4.size)
          clear hb5 B4
          go_wp2_with fail
          refine (deadline_to HD.out Hn.out (HN.out.below B5) (by omega) (by omega)).mono ?_
          rintro e w6 ⟨rfl, hb6⟩
          go_wp2_with fail
          go_ret
          exact ⟨rfl, B5.trans (hb6.mono B5.size)⟩
  · have hr' : Det.right l = false := by simpa using hr
    have Hr := Lib.hid hr'
    clear hr hr'
    go_enter Try.func6, Try.ntmps6
    go_wp2_with fail
    refine (small_any _).mono ?_
    rintro e w1 ⟨rfl, B1⟩
    have B1' : Below w.heap.size w w1.drew := below_drewN B1 1
    clear B1
    go_wp2_with fail
    refine region_class (fun u : Over w.heap.size w => u.val) ⟨_, B1'⟩ rfl (by kernel_rfl) (by kernel_rfl) ?_
    repeat (go_big_quiet_step ((first
      | (go_at_call 10; exact over_left (Nat.le_refl _) (right_to Hr.out Hn.out (HN.out.below (Over.below _)) hnb))
      )))
    with_reducible refine wpQuiet_nil ?_
    rintro _ ⟨⟨w2, B2⟩, rfl⟩
    go_wp2
    go_ret
    exact ⟨rfl, B2⟩
theorem own : ownKnob Try.prog.godebug = none := by kernel_rfl
theorem laid : laidOutB Try.prog = true := by kernel_rfl

set_option maxRecDepth 100000 in
theorem lifted (os : Os) (started : os.Started) (H : Type) (enc : TypeId × Value → H) :
    ReturnsInHanded {} Try.checked os 6 .any (Rows.detectShiftsSpec.pre6 enc Try.prog Try.f6 Rows.detectShiftsRow.domain false) (Rows.detectShiftsSpec.post enc Try.prog Try.f6 false true false false) := by
  refine law_lifted (C := Try.checked) (B := 4) own started (by kernel_rfl) Try.func6
    (ChangeSpec.witness6 (enc := enc) (C := Try.checked) false ⟨#[], #[.slice none 0 0, .int .i64 0], []⟩ 8 (by kernel_rfl) (by kernel_rfl) (by kernel_rfl) (by kernel_rfl))
    rfl rfl Try.underlying4 laid (of_decide_eq_true (by kernel_rfl)) ?_ ?_
  · intro ds hl
    rw [Try.params6] at hl
    match ds, hl with
    | [d0, d1], _ => rfl
  · intro W base args ds ps hval hA hlt hz
    rw [Try.params6] at hA hval
    obtain ⟨v0, vs0, d0, ds0, p0, q0, hargs, rfl, rfl, h0, r0⟩ := trodAll_cons hA
    obtain ⟨v1, vs1, d1, ds1, p1, q1, rfl, rfl, rfl, h1, r1⟩ := trodAll_cons r0
    obtain ⟨rfl, rfl, rfl⟩ := trodAll_nil r1
    obtain rfl : args = #[v0, v1] := by cases args; simp_all
    obtain ⟨A0, n0, cap0, l0, rfl, hl0, hm0, hn0, hN0, hw0⟩ := open_beats (hval 0 22 v0 rfl rfl) h0
    obtain ⟨a1, rfl, rfl, rfl, w1⟩ := open_int Try.underlying3 (hval 1 3 v1 rfl rfl) h1
    exact walk W A0 n0 cap0 l0 hl0 hm0 hn0 hN0 hw0 a1 w1

theorem over : Rows.detectShiftsRow.holds Try.pinned (OpenSpec.ofChange Rows.detectShiftsSpec) :=
  OpenClaim.holds_of_wide 6 Try.f6 rfl rfl rfl rfl rfl rfl rfl ⟨rfl, rfl, rfl, rfl, rfl⟩ rfl rfl rfl rfl rfl (by kernel_rfl) Try.func6 (by kernel_rfl)
    (of_decide_eq_true (by kernel_rfl)) (by unfold Func.isWrapper; first | (rw [if_pos (by decide +kernel)]; kernel_rfl) | (rw [if_neg (by decide +kernel)]; exact ⟨rfl, rfl⟩))
    (fun os started H enc _ => lifted os started H enc)

theorem proved : Rows.DetectShiftsSaid := over
#print axioms proved
end Go.Proofs.Ytljenpfccmfnbaa.detectShifts
