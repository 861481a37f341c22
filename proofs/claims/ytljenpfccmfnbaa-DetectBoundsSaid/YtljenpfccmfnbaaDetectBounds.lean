/- DetectBounds holds for any right beats, and any more: what is right stays right, and the next beat is awaited behind the last one, and no later than 40 ticks behind it. No condition. -/
import Derived.Test.YtljenpfccmfnbaaDet5
import Derived.Test.YtljenpfccmfnbaaDetMath2
import Derived.BigQuiet
import Derived.Deep.RegionHeld3
namespace Go.Proofs.Ytljenpfccmfnbaa.detectBounds
open Go.ChangeShapes Go.WideShapes Go.ChangeAt Go.RowKit

set_option maxRecDepth 10000 in
set_option maxHeartbeats 4000000 in
theorem walk (w : World) (A : Option Addr) (n cap : Nat) (l : Det.Row) (hl : n ≤ cap) (hm : cap ≤ maxLen) (hn : l.length = n) (hN : Beats w A l) (hw : ∀ p ∈ l, (-9223372036854775808 ≤ p.1 ∧ p.1 ≤ 9223372036854775807) ∧ -9223372036854775808 ≤ p.2 ∧ p.2 ≤ 9223372036854775807)
    (A1 : Option Addr) (n1 cap1 : Nat) (l1 : Det.Row) (hl1 : n1 ≤ cap1) (hm1 : cap1 ≤ maxLen) (hn1 : l1.length = n1) (hN1 : Beats w A1 l1) (hw1 : ∀ p ∈ l1, (-9223372036854775808 ≤ p.1 ∧ p.1 ≤ 9223372036854775807) ∧ -9223372036854775808 ≤ p.2 ∧ p.2 ≤ 9223372036854775807) :
    Calls Try.prog 4 #[.slice A n cap, .slice A1 n1 cap1] w fun e w' => e = .returned (.bool true) ∧ Below w.heap.size w w' := by
  have z0 : ∀ W, (zeroValue beT).run Try.prog W = .ok (.agg #[.int .i64 0, .int .i64 0]) W := fun W => by kernel_rfl
  unfold maxLen at hm hm1
  have hnb : n ≤ 9223372036854775807 := by omega
  have hnb1 : n1 ≤ 9223372036854775807 := by omega
  clear hw hw1 hl hl1 hm hm1
  have Hn := Lib.hid hn
  have HN := Lib.hid hN
  have Hn1 := Lib.hid hn1
  have HN1 := Lib.hid hN1
  clear hn hN hn1 hN1
  by_cases h5 : 200 < n1
  · have h5' : (200 : Int) < n1 := by omega
    go_enter Try.func4, Try.ntmps4
    go_wp2_with fail
    refine (small_any _).mono ?_
    rintro e w1 ⟨rfl, B1⟩
    go_wp2_with fail
    go_ret
    exact ⟨rfl, B1⟩
  · by_cases hr : Det.right l = true
    · have Hr := Lib.hid hr
      have hr8 := Det.right_len hr
      rw [Hn.out] at hr8
      have h5' : (n1 : Int) ≤ 200 := by omega
      clear hr
      go_enter Try.func4, Try.ntmps4
      go_wp2_with fail
      refine (small_any _).mono ?_
      rintro e w1 ⟨rfl, B1⟩
      go_wp2_with fail
      refine (right_to Hr.out Hn.out (HN.out.below B1) (by omega)).mono ?_
      rintro e w2 ⟨rfl, hb⟩
      have B2 := B1.trans (hb.mono B1.size)
      clear hb B1
      go_wp2_with fail
      go_loopw [0, 6] (fun v i wr => ∃ (k : Nat) (L : Det.Row) (B : Option Addr) (c m : Nat), k ≤ n1 ∧ i = .int .i64 k ∧ v = .slice B m c ∧ L.length = m ∧ m ≤ 8 ∧ 1 ≤ m ∧ Det.right L = true ∧ Beats wr B L ∧ Below w.heap.size w wr) (fun _ i _ => n1 - (intOf i).toNat)
      case atStart => exact ⟨0, l, A, cap, n, Nat.zero_le _, rfl, rfl, Hn.out, hr8.2, hr8.1, Hr.out, HN.out.below B2, B2⟩
      case round =>
        obtain ⟨k, L, B, c, m, hk, rfl, rfl, hL, hm8, hm1', hR, hNL, hB⟩ := hrel
        have HL := Lib.hid hL
        have HR := Lib.hid hR
        have HNL := Lib.hid hNL
        clear B2 hL hR
        by_cases hkn : k < n1
        · obtain ⟨b1, off1, rfl, hb1, hc1⟩ := HN1.out.at (by rw [Hn1.out]; omega)
          obtain ⟨g0, g1⟩ := hc1 k (by rw [Hn1.out]; exact hkn)
          have c0 := (hB.cell (p := ⟨b1, off1 + k * 2, none⟩) hb1).trans g0
          have c1 := (hB.cell (p := ⟨b1, off1 + k * 2 + 1, none⟩) hb1).trans g1
          generalize l1.getD k (0, 0) = p at c0 c1
          obtain ⟨pa, pb⟩ := p
          simp only at c0 c1
          obtain ⟨b, off, rfl, hb, hc⟩ := hNL.at (by rw [HL.out]; omega)
          obtain ⟨t, rfl⟩ : ∃ t, m = t + 1 := ⟨m - 1, by omega⟩
          obtain ⟨d0, d1⟩ := hc t (by rw [HL.out]; omega)
          have e : L.getD t (0, 0) = Det.last L := by unfold Det.last; rw [HL.out]; rfl
          rw [e] at d0 d1
          obtain ⟨y, hy⟩ : ∃ y, y = Det.last L := ⟨_, rfl⟩
          rw [← hy] at d0 d1
          have HY := Lib.hid hy
          have e1 : IntKind.i64.wrap (((t + 1 : Nat) : Int) - 1) = (t : Int) := by rw [IntWalk.i64_in _ (by omega)]; omega
          have q1 : (k : Int) < (n1 : Int) := by omega
          have q0 : (0 : Int) ≤ (k : Int) := by omega
          have q3 : (t : Int) < ((t + 1 : Nat) : Int) := by omega
          have q2 : (0 : Int) ≤ (t : Int) := by omega
          clear hc hc1 g0 g1 e hNL hy
          go_wp2_with fail
          obtain ⟨V, hV⟩ : ∃ V, V = wr.alloc (.cells #[.int .i64 y.1, .int .i64 y.2] beT) := ⟨_, rfl⟩
          have hBA : Below wr.heap.size wr V := by rw [hV]; exact (Below.refl wr.heap.size wr).alloc (Nat.le_refl _) _
          have RV : V.heap[wr.heap.size]? = some (.cells #[.int .i64 y.1, .int .i64 y.2] beT) := by rw [hV]; exact (MapKept.heap_alloc wr _).1
          have BV := hB.trans (hBA.mono hB.size)
          have hb1' : b1 < wr.heap.size := Nat.lt_of_lt_of_le hb1 hB.size
          have v0 := (hBA.cell (p := ⟨b1, off1 + k * 2, none⟩) hb1').trans c0
          have v1 := (hBA.cell (p := ⟨b1, off1 + k * 2 + 1, none⟩) hb1').trans c1
          have NV := Lib.hid (HNL.out.below hBA)
          rw [← hV]
          have gV := row_lt RV
          have hsz := hB.size
          have hbwr := hb1
          clear hBA hV c0 c1 d0 d1 hB hb hb1'
          have v0' := v0
          have v1' := v1
          rw [BV.cell (p := ⟨b1, off1 + k * 2, none⟩) hbwr] at v0'
          rw [BV.cell (p := ⟨b1, off1 + k * 2 + 1, none⟩) hbwr] at v1'
          have RD : V.drew.heap[wr.heap.size]? = some (.cells #[.int .i64 y.1, .int .i64 y.2] beT) := RV
          have BD : Below w.heap.size w V.drew := below_drewN BV 1
          have ND := Lib.hid (show Beats V.drew (some ⟨b, off, none⟩) L from NV.out)
          have gD : wr.heap.size < V.drew.heap.size := gV
          clear RV BV NV gV
          have hbr := Det.beat_right (seq := pa) (now := pb) HR.out
          have hln := Det.right_len hbr
          by_cases hmay : Det.may L pa pb = true
          · have hlast : Det.last (Det.beat L pa pb) = (pa, pb) := by rw [Det.beat_yes hmay]; exact Det.push_last _ _ _
            have hdl := Det.deadline_bd hbr
            have hl0 := Det.right_last hbr
            rw [hlast] at hdl hl0
            simp only at hdl hl0
            obtain ⟨L', hL'⟩ : ∃ L', Det.beat L pa pb = L' := ⟨_, rfl⟩
            obtain ⟨dl, hd⟩ : ∃ dl, Det.deadline L' = dl := ⟨_, rfl⟩
            rw [hL'] at hbr hln hlast hdl
            rw [hd] at hdl
            obtain ⟨m', hm'⟩ : ∃ m', L'.length = m' + 1 := ⟨L'.length - 1, by omega⟩
            rw [hm'] at hln
            have HL' := Lib.hid hL'
            have HD := Lib.hid hd
            have HM' := Lib.hid hm'
            have HBR := Lib.hid hbr
            have HMY := Lib.hid hmay
            have HLA := Lib.hid hlast
            have e1' : IntKind.i64.wrap (((m' + 1 : Nat) : Int) - 1) = (m' : Int) := by rw [IntWalk.i64_in _ (by omega)]; omega
            have q3' : (m' : Int) < ((m' + 1 : Nat) : Int) := by omega
            have q2' : (0 : Int) ≤ (m' : Int) := by omega
            clear hbr hL' hd hm' hmay hlast
            go_region_held3 (fun W => W.cell? ⟨b1, off1 + k * 2, none⟩ = some (.int .i64 pa) ∧ W.cell? ⟨b1, off1 + k * 2 + 1, none⟩ = some (.int .i64 pb))
              (first | exact ⟨v0, v1⟩ | exact ⟨x0, x1⟩ | go_keep)
              (first
              | (go_at_call 15; refine (beat_to HL'.out HMY.out HM'.out HL.out ND.out (by omega)).mono ?_; rintro e w3 ⟨A3, c3, rfl, hO3, hb3⟩; have B3 := BD.trans (hb3.mono BD.size); have x0 := (B3.cell (p := ⟨b1, off1 + k * 2, none⟩) hbwr).trans v0'; have x1 := (B3.cell (p := ⟨b1, off1 + k * 2 + 1, none⟩) hbwr).trans v1'))
            have R3 := row_kept RD hb3 gD
            have N3 := hO3.beats
            have g3 := lt_kept gD hb3
            clear hO3 hb3 RD BD ND gD v0 v1
            go_wp2_with fail
            refine (right_to HBR.out HM'.out N3 (by omega)).mono ?_
            rintro e w4 ⟨rfl, hb4⟩
            have R4 := row_kept R3 hb4 g3
            have N4 := N3.below hb4
            have B4 := B3.trans (hb4.mono B3.size)
            have g4 := lt_kept g3 hb4
            clear hb4 R3 N3 B3 g3 x0 x1
            obtain ⟨b4, off4, rfl, hbb4, hc4⟩ := N4.at (by rw [HM'.out]; omega)
            obtain ⟨f0, f1⟩ := hc4 m' (by rw [HM'.out]; omega)
            have e : L'.getD m' (0, 0) = Det.last L' := by unfold Det.last; rw [HM'.out]; rfl
            rw [e, HLA.out] at f0 f1
            simp only at f0 f1
            have N4' := Lib.hid N4
            clear hc4 e N4
            go_wp2_with fail
            obtain ⟨V2, hV2⟩ : ∃ V2, V2 = w4.alloc (.cells #[.int .i64 pa, .int .i64 pb] beT) := ⟨_, rfl⟩
            have hBA : Below w4.heap.size w4 V2 := by rw [hV2]; exact (Below.refl w4.heap.size w4).alloc (Nat.le_refl _) _
            have RV2 : V2.heap[w4.heap.size]? = some (.cells #[.int .i64 pa, .int .i64 pb] beT) := by rw [hV2]; exact (MapKept.heap_alloc w4 _).1
            have R5 := row_kept R4 hBA g4
            have B5 := B4.trans (hBA.mono B4.size)
            have N5 := Lib.hid (N4'.out.below hBA)
            rw [← hV2]
            have g5 := row_lt RV2
            clear hBA hV2 R4 B4 N4' f0 f1
            refine (deadline_to HD.out HM'.out N5.out (by omega) (by omega)).mono ?_
            rintro e w6 ⟨rfl, hb6⟩
            have R6 := row_cells (row_kept R5 hb6 (Nat.lt_of_lt_of_le g4 (by omega)))
            have S6 := row_cells (row_kept RV2 hb6 g5)
            have B6 := B5.trans (hb6.mono B5.size)
            have N6 := Lib.hid (N5.out.below hb6)
            have x0 := (B6.cell (p := ⟨b1, off1 + k * 2, none⟩) hbwr).trans v0'
            have x1 := (B6.cell (p := ⟨b1, off1 + k * 2 + 1, none⟩) hbwr).trans v1'
            clear hb6 R5 RV2 B5 N5 g4 g5
            have i1 : IntKind.i64.wrap (pb + 1) = pb + 1 := IntWalk.i64_in _ (by omega)
            have i2 : IntKind.i64.wrap (pb + 40) = pb + 40 := IntWalk.i64_in _ (by omega)
            have s0 := S6 0
            have s1 := S6 1
            have r0 := R6 0
            have r1 := R6 1
            have u3 : decide (pb + 40 < dl) = false := decide_eq_false (by omega)
            have u4 : decide (1099511627776 < dl) = false := decide_eq_false (by omega)
            have hc : (pb = 1099511627776 ∧ dl = 1099511627776) ∨ (pb + 1 ≤ 1099511627776 ∧ decide (dl ≤ pb) = false ∧ decide (dl < pb + 1) = false) := by
              by_cases h : 1099511627776 < pb + 1
              · exact Or.inl ⟨by omega, by omega⟩
              · exact Or.inr ⟨by omega, decide_eq_false (by omega), decide_eq_false (by omega)⟩
            clear R6 S6 hdl hl0
            rcases hc with ⟨rfl, rfl⟩ | ⟨hc, u5, u6⟩
            all_goals
              go_wp2_with fail
              go_quiet (fail)
              clear x0 x1 v0' v1' s0 s1 r0 r1 i1 i2 u3 u4 e1 e1' q2 q3 q2' q3'
              try clear u5 u6 hc
              go_wp2
              go_roundw
              case rel => exact ⟨k + 1, L', some ⟨b4, off4, none⟩, c3, m' + 1, by omega, by go_num, rfl, HM'.out, by omega, by omega, HBR.out, N6.out, below_drewN B6 _⟩
              case measure => simp [intOf]; omega
          · have hmay : Det.may L pa pb = false := by simpa using hmay
            obtain ⟨ya, yb⟩ := y
            have hlast : Det.last (Det.beat L pa pb) = (ya, yb) := by rw [Det.beat_no hmay]; exact HY.out.symm
            simp only at RD
            have hdl := Det.deadline_bd hbr
            have hl0 := Det.right_last hbr
            rw [hlast] at hdl hl0
            simp only at hdl hl0
            obtain ⟨L', hL'⟩ : ∃ L', Det.beat L pa pb = L' := ⟨_, rfl⟩
            obtain ⟨dl, hd⟩ : ∃ dl, Det.deadline L' = dl := ⟨_, rfl⟩
            rw [hL'] at hbr hln hlast hdl
            rw [hd] at hdl
            obtain ⟨m', hm'⟩ : ∃ m', L'.length = m' + 1 := ⟨L'.length - 1, by omega⟩
            rw [hm'] at hln
            have HL' := Lib.hid hL'
            have HD := Lib.hid hd
            have HM' := Lib.hid hm'
            have HBR := Lib.hid hbr
            have HMY := Lib.hid hmay
            have HLA := Lib.hid hlast
            have e1' : IntKind.i64.wrap (((m' + 1 : Nat) : Int) - 1) = (m' : Int) := by rw [IntWalk.i64_in _ (by omega)]; omega
            have q3' : (m' : Int) < ((m' + 1 : Nat) : Int) := by omega
            have q2' : (0 : Int) ≤ (m' : Int) := by omega
            clear hbr hL' hd hm' hmay hlast
            go_region_held3 (fun W => W.cell? ⟨b1, off1 + k * 2, none⟩ = some (.int .i64 pa) ∧ W.cell? ⟨b1, off1 + k * 2 + 1, none⟩ = some (.int .i64 pb))
              (first | exact ⟨v0, v1⟩ | exact ⟨x0, x1⟩ | go_keep)
              (first
              | (go_at_call 15; refine (beat_to HL'.out HMY.out HM'.out HL.out ND.out (by omega)).mono ?_; rintro e w3 ⟨A3, c3, rfl, hO3, hb3⟩; have B3 := BD.trans (hb3.mono BD.size); have x0 := (B3.cell (p := ⟨b1, off1 + k * 2, none⟩) hbwr).trans v0'; have x1 := (B3.cell (p := ⟨b1, off1 + k * 2 + 1, none⟩) hbwr).trans v1'))
            have R3 := row_kept RD hb3 gD
            have N3 := hO3.beats
            have g3 := lt_kept gD hb3
            clear hO3 hb3 RD BD ND gD v0 v1
            go_wp2_with fail
            refine (right_to HBR.out HM'.out N3 (by omega)).mono ?_
            rintro e w4 ⟨rfl, hb4⟩
            have R4 := row_kept R3 hb4 g3
            have N4 := N3.below hb4
            have B4 := B3.trans (hb4.mono B3.size)
            have g4 := lt_kept g3 hb4
            clear hb4 R3 N3 B3 g3 x0 x1
            obtain ⟨b4, off4, rfl, hbb4, hc4⟩ := N4.at (by rw [HM'.out]; omega)
            obtain ⟨f0, f1⟩ := hc4 m' (by rw [HM'.out]; omega)
            have e : L'.getD m' (0, 0) = Det.last L' := by unfold Det.last; rw [HM'.out]; rfl
            rw [e, HLA.out] at f0 f1
            simp only at f0 f1
            have N4' := Lib.hid N4
            clear hc4 e N4
            go_wp2_with fail
            obtain ⟨V2, hV2⟩ : ∃ V2, V2 = w4.alloc (.cells #[.int .i64 ya, .int .i64 yb] beT) := ⟨_, rfl⟩
            have hBA : Below w4.heap.size w4 V2 := by rw [hV2]; exact (Below.refl w4.heap.size w4).alloc (Nat.le_refl _) _
            have RV2 : V2.heap[w4.heap.size]? = some (.cells #[.int .i64 ya, .int .i64 yb] beT) := by rw [hV2]; exact (MapKept.heap_alloc w4 _).1
            have R5 := row_kept R4 hBA g4
            have B5 := B4.trans (hBA.mono B4.size)
            have N5 := Lib.hid (N4'.out.below hBA)
            rw [← hV2]
            have g5 := row_lt RV2
            clear hBA hV2 R4 B4 N4' f0 f1
            refine (deadline_to HD.out HM'.out N5.out (by omega) (by omega)).mono ?_
            rintro e w6 ⟨rfl, hb6⟩
            have R6 := row_cells (row_kept R5 hb6 (Nat.lt_of_lt_of_le g4 (by omega)))
            have S6 := row_cells (row_kept RV2 hb6 g5)
            have B6 := B5.trans (hb6.mono B5.size)
            have N6 := Lib.hid (N5.out.below hb6)
            have x0 := (B6.cell (p := ⟨b1, off1 + k * 2, none⟩) hbwr).trans v0'
            have x1 := (B6.cell (p := ⟨b1, off1 + k * 2 + 1, none⟩) hbwr).trans v1'
            clear hb6 R5 RV2 B5 N5 g4 g5
            have i1 : IntKind.i64.wrap (yb + 1) = yb + 1 := IntWalk.i64_in _ (by omega)
            have i2 : IntKind.i64.wrap (yb + 40) = yb + 40 := IntWalk.i64_in _ (by omega)
            have s0 := S6 0
            have s1 := S6 1
            have r0 := R6 0
            have r1 := R6 1
            have u3 : decide (yb + 40 < dl) = false := decide_eq_false (by omega)
            have u4 : decide (1099511627776 < dl) = false := decide_eq_false (by omega)
            have hc : (yb = 1099511627776 ∧ dl = 1099511627776) ∨ (yb + 1 ≤ 1099511627776 ∧ decide (dl ≤ yb) = false ∧ decide (dl < yb + 1) = false) := by
              by_cases h : 1099511627776 < yb + 1
              · exact Or.inl ⟨by omega, by omega⟩
              · exact Or.inr ⟨by omega, decide_eq_false (by omega), decide_eq_false (by omega)⟩
            clear R6 S6 hdl hl0
            rcases hc with ⟨rfl, rfl⟩ | ⟨hc, u5, u6⟩
            all_goals
              go_wp2_with fail
              go_quiet (fail)
              clear x0 x1 v0' v1' s0 s1 r0 r1 i1 i2 u3 u4 e1 e1' q2 q3 q2' q3'
              try clear u5 u6 hc
              go_wp2
              go_roundw
              case rel => exact ⟨k + 1, L', some ⟨b4, off4, none⟩, c3, m' + 1, by omega, by go_num, rfl, HM'.out, by omega, by omega, HBR.out, N6.out, below_drewN B6 _⟩
              case measure => simp [intOf]; omega
        · obtain rfl : k = n1 := by omega
          clear hNL
          go_wp2_with fail
          go_ret
          exact ⟨rfl, hB⟩
    · have hr' : Det.right l = false := by simpa using hr
      have Hr := Lib.hid hr'
      have h5' : (n1 : Int) ≤ 200 := by omega
      clear hr hr'
      go_enter Try.func4, Try.ntmps4
      go_wp2_with fail
      refine (small_any _).mono ?_
      rintro e w1 ⟨rfl, B1⟩
      go_wp2_with fail
      refine (right_to Hr.out Hn.out (HN.out.below B1) hnb).mono ?_
      rintro e w2 ⟨rfl, hb⟩
      go_wp2_with fail
      go_ret
      exact ⟨rfl, B1.trans (hb.mono B1.size)⟩
theorem own : ownKnob Try.prog.godebug = none := by kernel_rfl
theorem laid : laidOutB Try.prog = true := by kernel_rfl

set_option maxRecDepth 100000 in
theorem lifted (os : Os) (started : os.Started) (H : Type) (enc : TypeId × Value → H) :
    ReturnsInHanded {} Try.checked os 4 .any (Rows.detectBoundsSpec.pre6 enc Try.prog Try.f4 Rows.detectBoundsRow.domain false) (Rows.detectBoundsSpec.post enc Try.prog Try.f4 false true false false) := by
  refine law_lifted (C := Try.checked) (B := 4) own started (by kernel_rfl) Try.func4
    (ChangeSpec.witness6 (enc := enc) (C := Try.checked) false ⟨#[], #[.slice none 0 0, .slice none 0 0], []⟩ 8 (by kernel_rfl) (by kernel_rfl) (by kernel_rfl) (by kernel_rfl))
    rfl rfl Try.underlying4 laid (of_decide_eq_true (by kernel_rfl)) ?_ ?_
  · intro ds hl
    rw [Try.params4] at hl
    match ds, hl with
    | [d0, d1], _ => rfl
  · intro W base args ds ps hval hA hlt hz
    rw [Try.params4] at hA hval
    obtain ⟨v0, vs0, d0, ds0, p0, q0, hargs, rfl, rfl, h0, r0⟩ := trodAll_cons hA
    obtain ⟨v1, vs1, d1, ds1, p1, q1, rfl, rfl, rfl, h1, r1⟩ := trodAll_cons r0
    obtain ⟨rfl, rfl, rfl⟩ := trodAll_nil r1
    obtain rfl : args = #[v0, v1] := by cases args; simp_all
    obtain ⟨A0, n0, cap0, l0, rfl, hl0, hm0, hn0, hN0, hw0⟩ := open_beats (hval 0 22 v0 rfl rfl) h0
    obtain ⟨A1, n1, cap1, l1, rfl, hl1, hm1, hn1, hN1, hw1⟩ := open_beats (hval 1 22 v1 rfl rfl) h1
    exact walk W A0 n0 cap0 l0 hl0 hm0 hn0 hN0 hw0 A1 n1 cap1 l1 hl1 hm1 hn1 hN1 hw1

theorem over : Rows.detectBoundsRow.holds Try.pinned (OpenSpec.ofChange Rows.detectBoundsSpec) :=
  OpenClaim.holds_of_wide 4 Try.f4 rfl rfl rfl rfl rfl rfl rfl ⟨rfl, rfl, rfl, rfl, rfl⟩ rfl rfl rfl rfl rfl (by kernel_rfl) Try.func4 (by kernel_rfl)
    (of_decide_eq_true (by kernel_rfl)) (by unfold Func.isWrapper; first | (rw [if_pos (by decide +kernel)]; kernel_rfl) | (rw [if_neg (by decide +kernel)]; exact ⟨rfl, rfl⟩))
    (fun os started H enc _ => lifted os started H enc)

theorem proved : Rows.DetectBoundsSaid := over
#print axioms proved
end Go.Proofs.Ytljenpfccmfnbaa.detectBounds
