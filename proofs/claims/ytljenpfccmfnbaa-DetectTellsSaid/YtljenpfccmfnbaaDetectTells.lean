/- DetectTells holds for any beats, any more, any time: rows of beats, beat by beat, and by when the next one is awaited, are as the document's own answer tells. No condition. -/
import Derived.Test.YtljenpfccmfnbaaDetRef2
import Derived.Deep.RegionHeld3
namespace Go.Proofs.Ytljenpfccmfnbaa.detectTells
open Go.ChangeShapes Go.WideShapes Go.ChangeAt Go.RowKit

theorem rright_to {l : Det.Row} {r : Bool} {n c : Nat} {w : World} {A : Option Addr} (hr : Det.right l = r) (hn : l.length = n) (hN : Beats w A l) (hlen : n ≤ 9223372036854775807) :
    Calls Try.prog 11 #[.slice A n c] w fun e w' => e = .returned (.bool r) ∧ Below w.heap.size w w' := by
  subst hr
  exact rright_any w A n c l hn hN hlen
theorem nums_far {w : World} {g : Nat} {t : TypeId} {cs : Array Value} {A : Option Addr} {zs : List Int} (h : Nums .i64 w A zs) (hA : ∀ a, A = some a → a.block ≠ g) : Nums .i64 (setRow w g t cs) A zs := by
  rcases h with h | ⟨b, off, h1, h2, h3⟩
  · exact Or.inl h
  · refine Or.inr ⟨b, off, h1, by rw [setRow_size]; exact h2, fun i hi => ?_⟩
    rw [← h3 i hi]
    unfold World.cell?
    simp only [setRow_far (show b ≠ g from hA _ h1)]

set_option maxRecDepth 10000 in
set_option maxHeartbeats 8000000 in
theorem walk (w : World) (A : Option Addr) (n cap : Nat) (l : Det.Row) (hl : n ≤ cap) (hm : cap ≤ maxLen) (hn : l.length = n) (hN : Beats w A l) (hw : ∀ p ∈ l, (-9223372036854775808 ≤ p.1 ∧ p.1 ≤ 9223372036854775807) ∧ -9223372036854775808 ≤ p.2 ∧ p.2 ≤ 9223372036854775807)
    (A1 : Option Addr) (n1 cap1 : Nat) (l1 : Det.Row) (hl1 : n1 ≤ cap1) (hm1 : cap1 ≤ maxLen) (hn1 : l1.length = n1) (hN1 : Beats w A1 l1) (hw1 : ∀ p ∈ l1, (-9223372036854775808 ≤ p.1 ∧ p.1 ≤ 9223372036854775807) ∧ -9223372036854775808 ≤ p.2 ∧ p.2 ≤ 9223372036854775807)
    (now : Int) (w1 : (Lit.int .i64 now).wf = true) :
    Calls Try.prog 3 #[.slice A n cap, .slice A1 n1 cap1, .int .i64 now] w fun e w' => e = .returned (.bool true) ∧ Below w.heap.size w w' := by
  unfold maxLen at hm hm1
  have hnb : n ≤ 9223372036854775807 := by omega
  have Hn := Lib.hid hn
  have HN := Lib.hid hN
  have Hn1 := Lib.hid hn1
  have HN1 := Lib.hid hN1
  clear hw hw1 hl hl1 hm hm1 hn hN hn1 hN1 w1
  by_cases h5 : 50 < n ∨ 100 < n1
  · have hcase : (50 : Int) < n ∨ ((n : Int) ≤ 50 ∧ (100 : Int) < n1) := by omega
    clear h5
    rcases hcase with h | ⟨h0, h⟩
    all_goals
      go_enter Try.func3, Try.ntmps3
      go_wp2_with fail
      refine (small_any _).mono ?_
      rintro e w1 ⟨rfl, B1⟩
      go_wp2_with fail
      go_ret
      exact ⟨rfl, B1⟩
  · have h50 : (n : Int) ≤ 50 := by omega
    have h100 : (n1 : Int) ≤ 100 := by omega
    obtain ⟨i0, hi, hz0, hz1, hz2⟩ := info_parts infoB
    have HI := Lib.hid (And.intro hi (And.intro hz0 (And.intro hz1 hz2)))
    clear h5 hi hz0 hz1 hz2
    obtain ⟨r, hr⟩ : ∃ r, Det.right l = r := ⟨_, rfl⟩
    have Hr := Lib.hid hr
    go_enter Try.func3, Try.ntmps3
    go_wp2_with fail
    refine (small_any _).mono ?_
    rintro e w1 ⟨rfl, B1⟩
    go_wp2_with fail
    refine (right_to Hr.out Hn.out (HN.out.below B1) hnb).mono ?_
    rintro e w2 ⟨rfl, hb⟩
    have B1 := B1.trans (hb.mono B1.size)
    clear hb
    go_wp2_with fail
    refine (rright_to Hr.out Hn.out (HN.out.below B1) hnb).mono ?_
    rintro e w3 ⟨rfl, hb⟩
    have B1 := B1.trans (hb.mono B1.size)
    clear hb
    have hrr : (r != r) = false := by simp
    go_wp2_with fail
    refine (start_any now _).mono ?_
    rintro e w4 ⟨A4, c4, rfl, hO4, hb⟩
    have N4 := hO4.beats
    have B1 := B1.trans (hb.mono B1.size)
    clear hb hO4
    go_wp2_with fail
    refine (rstart_any now _).mono ?_
    rintro e w5 ⟨A5, c5, rfl, hO5, hb⟩
    have N5 := hO5.beats
    have N4 := N4.below hb
    have B1 := B1.trans (hb.mono B1.size)
    clear hb hO5
    go_wp2_with fail
    refine (same_to (r := true) (by simp) rfl rfl N4 N5 (by simp)).mono ?_
    rintro e w6 ⟨rfl, hb⟩
    have B1 := B1.trans (hb.mono B1.size)
    clear hb N4 N5
    go_wp2_with fail
    refine (rright_to Hr.out Hn.out (HN.out.below B1) hnb).mono ?_
    rintro e w7 ⟨rfl, hb⟩
    have B1 := B1.trans (hb.mono B1.size)
    clear hb hr
    cases r
    · go_wp2_with fail
      go_ret
      exact ⟨rfl, B1⟩
    · have hr8 := Det.right_len Hr.out
      rw [Hn.out] at hr8
      go_wp2_with fail
      go_loopw [8, 9] (fun v i wr => ∃ (k : Nat) (X : Det.Row) (B : Option Addr) (c m : Nat), k ≤ n1 ∧ i = .int .i64 k ∧ v = .slice B m c ∧ X.length = m ∧ Det.right X = true ∧ Beats wr B X ∧ Below w.heap.size w wr) (fun _ i _ => n1 - (intOf i).toNat)
      case atStart => exact ⟨0, l, A, cap, n, Nat.zero_le _, rfl, rfl, Hn.out, Hr.out, HN.out.below B1, B1⟩
      case round =>
        obtain ⟨k, X, B, c, m, hk, rfl, rfl, hX, hRX, hNX, hB⟩ := hrel
        have HX := Lib.hid hX
        have HRX := Lib.hid hRX
        have HNX := Lib.hid hNX
        have m8 := Det.right_len hRX
        rw [hX] at m8
        clear B1 hX hRX
        by_cases hkn : k < n1
        · obtain ⟨b1, off1, rfl, hb1, hc1⟩ := HN1.out.at (by rw [Hn1.out]; omega)
          obtain ⟨g0, g1⟩ := hc1 k (by rw [Hn1.out]; exact hkn)
          generalize l1.getD k (0, 0) = p at g0 g1
          obtain ⟨pa, pb⟩ := p
          simp only at g0 g1
          have G0 := Lib.hid (And.intro g0 g1)
          have q1 : (k : Int) < (n1 : Int) := by omega
          have q0 : (0 : Int) ≤ (k : Int) := by omega
          have Hfl := Lib.hid (show (flat X).length = m * 2 by rw [flat_len, HX.out])
          obtain ⟨bx, offx, rfl, hbx, -⟩ := hNX.at (by rw [HX.out]; omega)
          clear hc1 g0 g1 hNX
          have rX := Det.beat_right (seq := pa) (now := pb) HRX.out
          have lX := Det.right_len rX
          obtain ⟨X', hX'⟩ : ∃ x, Det.beat X pa pb = x := ⟨_, rfl⟩
          obtain ⟨m', hm'⟩ : ∃ x, X'.length = x := ⟨_, rfl⟩
          obtain ⟨ok, hok⟩ : ∃ x, Det.may X pa pb = x := ⟨_, rfl⟩
          obtain ⟨dl, hdl⟩ : ∃ x, Det.deadline X' = x := ⟨_, rfl⟩
          rw [hX'] at rX lX
          rw [hm'] at lX
          have HX' := Lib.hid hX'
          have Hm' := Lib.hid hm'
          have Hok := Lib.hid hok
          have Hdl := Lib.hid hdl
          have HrX := Lib.hid rX
          have hoo : (ok != ok) = false := by simp
          clear hX' hm' hok hdl rX
          go_wp2_with (first
            | (at_builtin; refine wpList_append_recs rfl _ _ 22 rfl i0 _ 16 Try.underlying22 HI.out.1 HI.out.2.1 HI.out.2.2.1 HI.out.2.2.2 (by decide) rfl (by decide) rfl (OwnR.lit (n := 0) (m := 2) (zs := []) #[] (Nat.le_refl _) (Nat.zero_le _) rfl rfl) ⟨bx, offx, none⟩ m _ (flat X) rfl Hfl.out (HNX.out.alloc _) (by omega) wr.heap.size wr (Nat.le_refl _) ((Below.refl _ _).alloc (Nat.le_refl _) _) ?_; intro A3 c3 w3 hO3 hb3)
            )
          have N3 := Lib.hid (show Beats w3 A3 X by unfold Beats; simpa using hO3.nums)
          have NX3 := Lib.hid (HNX.out.below hb3)
          have B3 := hB.trans (hb3.mono hB.size)
          have v0 : w3.drew.cell? ⟨b1, off1 + k * 2, none⟩ = some (.int .i64 pa) := (B3.cell (p := ⟨b1, off1 + k * 2, none⟩) hb1).trans G0.out.1
          have v1 : w3.drew.cell? ⟨b1, off1 + k * 2 + 1, none⟩ = some (.int .i64 pb) := (B3.cell (p := ⟨b1, off1 + k * 2 + 1, none⟩) hb1).trans G0.out.2
          have BD : Below w.heap.size w w3.drew := below_drewN B3 1
          clear hO3 hb3 hB
          have hsz3 := B3.size
          go_region_held3 (fun W => W.cell? ⟨b1, off1 + k * 2, none⟩ = some (.int .i64 pa) ∧ W.cell? ⟨b1, off1 + k * 2 + 1, none⟩ = some (.int .i64 pb))
            (first | exact ⟨v0, v1⟩ | exact ⟨x0, y0⟩ | go_keep)
            (first
            | (go_at_call 15; refine (beat_to HX'.out Hok.out Hm'.out HX.out (show Beats w3.drew _ X from NX3.out) (by omega)).mono ?_; rintro e w4 ⟨A4, c4, rfl, hO4, hb4⟩; have B4 := BD.trans (hb4.mono BD.size); have x0 := (B4.cell (p := ⟨b1, off1 + k * 2, none⟩) hb1).trans G0.out.1; have y0 := (B4.cell (p := ⟨b1, off1 + k * 2 + 1, none⟩) hb1).trans G0.out.2))
          have N3b := Lib.hid (Beats.below (show Beats w3.drew A3 X from N3.out) hb4)
          have NX4 := Lib.hid (Beats.below (show Beats w3.drew _ X from NX3.out) hb4)
          have BE : Below w.heap.size w w4.drew := below_drewN B4 1
          have z0 : w4.drew.cell? ⟨b1, off1 + k * 2, none⟩ = some (.int .i64 pa) := x0
          have z1 : w4.drew.cell? ⟨b1, off1 + k * 2 + 1, none⟩ = some (.int .i64 pb) := y0
          clear hb4 BD v0 v1 x0 y0
          go_wp2_with fail
          go_region_held3 (fun W => W.cell? ⟨b1, off1 + k * 2, none⟩ = some (.int .i64 pa) ∧ W.cell? ⟨b1, off1 + k * 2 + 1, none⟩ = some (.int .i64 pb))
            (first | exact ⟨z0, z1⟩ | exact ⟨x0, y0⟩ | go_keep)
            (first
            | (go_at_call 16; refine (rbeat_to HX'.out Hok.out Hm'.out HRX.out HX.out (show Beats w4.drew _ X from NX4.out)).mono ?_; rintro e w5 ⟨A5, c5, rfl, N5, hb5⟩; have B5 := BE.trans (hb5.mono BE.size); have x0 := (B5.cell (p := ⟨b1, off1 + k * 2, none⟩) hb1).trans G0.out.1; have y0 := (B5.cell (p := ⟨b1, off1 + k * 2 + 1, none⟩) hb1).trans G0.out.2))
          have N3c := Beats.below (show Beats w4.drew A3 X from N3b.out) hb5
          have NX5 := Beats.below (show Beats w4.drew _ X from NX4.out) hb5
          have O5 := OwnR.below (OwnR.drewN hO4 1) hb5
          clear hb5 BE z0 z1 x0 y0 hO4 B4 B3
          go_wp2_with fail
          refine (same_to (r := true) (by simp) Hm'.out Hm'.out (OwnB.beats O5) N5 (by omega)).mono ?_
          rintro e w6 ⟨rfl, hb⟩
          have N3c := N3c.below hb
          have NX5 := NX5.below hb
          have N5 := N5.below hb
          have O5 := OwnR.below O5 hb
          have B5 := B5.trans (hb.mono B5.size)
          clear hb
          go_wp2_with fail
          refine (same_to (r := true) (by simp) HX.out HX.out N3c NX5 (by omega)).mono ?_
          rintro e w7 ⟨rfl, hb⟩
          have N5 := N5.below hb
          have O5 := OwnR.below O5 hb
          have B5 := B5.trans (hb.mono B5.size)
          clear hb N3c NX5
          go_wp2_with fail
          refine (deadline_to Hdl.out Hm'.out (OwnB.beats O5) (by omega) (by omega)).mono ?_
          rintro e w8 ⟨rfl, hb⟩
          have N5 := N5.below hb
          have O5 := OwnR.below O5 hb
          have B5 := B5.trans (hb.mono B5.size)
          clear hb
          go_wp2_with fail
          refine (rdeadline_to Hdl.out HrX.out Hm'.out N5).mono ?_
          rintro e w9 ⟨rfl, hb⟩
          have O5 := OwnR.below O5 hb
          have B5 := B5.trans (hb.mono B5.size)
          clear hb N5
          obtain ⟨g9, cur9, rfl, hg9, hh9, hs9, ht9⟩ := O5.at0 (by omega)
          have Hfl' := Lib.hid (show (flat X').length = m' * 2 by rw [flat_len, Hm'.out])
          have HO5 := Lib.hid O5.nums
          have Hcap := Lib.hid O5.len
          clear O5 ht9
          go_wp2_with (first
            | (at_builtin; refine wpList_append_recs rfl _ _ 22 rfl i0 _ 16 Try.underlying22 HI.out.1 HI.out.2.1 HI.out.2.2.1 HI.out.2.2.2 (by decide) rfl (by decide) rfl (OwnR.lit (n := 0) (m := 2) (zs := []) #[] (Nat.le_refl _) (Nat.zero_le _) rfl rfl) ⟨g9, 0, none⟩ m' _ (flat X') rfl Hfl'.out (HO5.out.alloc _) (by omega) w9.heap.size w9 (Nat.le_refl _) ((Below.refl _ _).alloc (Nat.le_refl _) _) ?_; intro AA cA wA hOA hbA)
            )
          have NA : Nums .i64 wA AA (flat X') := by simpa using hOA.nums
          have hlt9 := row_lt hh9
          have hAg := Lib.hid (fun a (h : AA = some a) => show a.block ≠ g9 by have := (hOA.block' h).1; omega)
          have hhA := row_kept hh9 hbA hlt9
          have BA := B5.trans (hbA.mono B5.size)
          have hgw : w.heap.size ≤ g9 := Nat.le_trans hsz3 hg9
          have HS := Lib.hid hs9
          have HC9 := Lib.hid (show m' ≤ c4 from Hcap.out.1)
          clear hOA hbA hh9 hs9 B5 hg9 hsz3 hlt9
          go_wp2_with fail
          go_loopw [15] (fun i wr2 => ∃ (t : Nat) (cur : Array Value), t ≤ m' ∧ i = .int .i64 t ∧ wr2.heap[g9]? = some (.cells cur beT) ∧ cur.size = c4 * 2 ∧ Nums .i64 wr2 AA (flat X') ∧ Below w.heap.size w wr2) (fun i _ => m' - (intOf i).toNat)
          case atStart => exact ⟨0, cur9, Nat.zero_le _, rfl, hhA, HS.out, NA, BA⟩
          case round =>
            obtain ⟨t, cur, ht, rfl, hh, hs, hNN, hBB⟩ := hrel
            clear hhA NA BA
            by_cases htm : t < m'
            · obtain ⟨s0, s1, d0, d1, f0, f1, zz⟩ := rows1 hh
              have hin : t * 2 + 1 < cur.size := by rw [hs]; have := HC9.out; omega
              have hv : cur[t * 2 + 1]? = some cur[t * 2 + 1] := Array.getElem?_eq_getElem hin
              have NF := Lib.hid (fun cs => nums_far (g := g9) (t := beT) (cs := cs) hNN hAg.out)
              have BF := Lib.hid (fun cs => setRow_below (t := beT) (cs := cs) hBB hgw)
              have RF := Lib.hid (fun ds => row_written (ds := ds) hh)
              have q5 : (t : Int) < (m' : Int) := by omega
              have q6 : (0 : Int) ≤ (t : Int) := by omega
              have HSz := Lib.hid hs
              generalize cur[t * 2 + 1] = vv at hv
              clear hh hs hNN hBB
              go_wp2_with fail
              go_roundw
              case rel => exact ⟨t + 1, _, by omega, by go_num, RF.out _, by rw [Array.size_setIfInBounds]; exact HSz.out, NF.out _, BF.out _⟩
              case measure => simp [intOf] <;> omega
            · obtain rfl : t = m' := by omega
              go_wp2_with fail
              go_roundw
              case rel => exact ⟨k + 1, X', AA, cA, t, by omega, by go_num, by first | rfl | simp, Hm'.out, HrX.out, hNN, hBB⟩
              case measure => simp [intOf] <;> omega
        · obtain rfl : k = n1 := by omega
          obtain ⟨dl, hdl⟩ : ∃ x, Det.deadline X = x := ⟨_, rfl⟩
          have Hdl := Lib.hid hdl
          clear hdl
          go_wp2_with fail
          refine (deadline_to Hdl.out HX.out HNX.out (by omega) (by omega)).mono ?_
          rintro e w8 ⟨rfl, hb⟩
          have B5 := hB.trans (hb.mono hB.size)
          go_wp2_with fail
          refine (rdeadline_to Hdl.out HRX.out HX.out (HNX.out.below hb)).mono ?_
          rintro e w9 ⟨rfl, hb2⟩
          go_wp2_with fail
          go_ret
          exact ⟨ret_bool (by simp), B5.trans (hb2.mono B5.size)⟩
theorem own : ownKnob Try.prog.godebug = none := by kernel_rfl
theorem laid : laidOutB Try.prog = true := by kernel_rfl

set_option maxRecDepth 100000 in
theorem lifted (os : Os) (started : os.Started) (H : Type) (enc : TypeId × Value → H) :
    ReturnsInHanded {} Try.checked os 3 .any (Rows.detectTellsSpec.pre6 enc Try.prog Try.f3 Rows.detectTellsRow.domain false) (Rows.detectTellsSpec.post enc Try.prog Try.f3 false true false false) := by
  refine law_lifted (C := Try.checked) (B := 4) own started (by kernel_rfl) Try.func3
    (ChangeSpec.witness6 (enc := enc) (C := Try.checked) false ⟨#[], #[.slice none 0 0, .slice none 0 0, .int .i64 0], []⟩ 8 (by kernel_rfl) (by kernel_rfl) (by kernel_rfl) (by kernel_rfl))
    rfl rfl Try.underlying4 laid (of_decide_eq_true (by kernel_rfl)) ?_ ?_
  · intro ds hl
    rw [Try.params3] at hl
    match ds, hl with
    | [d0, d1, d2], _ => rfl
  · intro W base args ds ps hval hA hlt hz
    rw [Try.params3] at hA hval
    obtain ⟨v0, vs0, d0, ds0, p0, q0, hargs, rfl, rfl, h0, r0⟩ := trodAll_cons hA
    obtain ⟨v1, vs1, d1, ds1, p1, q1, rfl, rfl, rfl, h1, r1⟩ := trodAll_cons r0
    obtain ⟨v2, vs2, d2, ds2, p2, q2, rfl, rfl, rfl, h2, r2⟩ := trodAll_cons r1
    obtain ⟨rfl, rfl, rfl⟩ := trodAll_nil r2
    obtain rfl : args = #[v0, v1, v2] := by cases args; simp_all
    obtain ⟨A0, n0, cap0, l0, rfl, hl0, hm0, hn0, hN0, hw0⟩ := open_beats (hval 0 22 v0 rfl rfl) h0
    obtain ⟨A1, n1, cap1, l1, rfl, hl1, hm1, hn1, hN1, hw1⟩ := open_beats (hval 1 22 v1 rfl rfl) h1
    obtain ⟨a2, rfl, rfl, rfl, w2⟩ := open_int Try.underlying3 (hval 2 3 v2 rfl rfl) h2
    exact walk W A0 n0 cap0 l0 hl0 hm0 hn0 hN0 hw0 A1 n1 cap1 l1 hl1 hm1 hn1 hN1 hw1 a2 w2

theorem over : Rows.detectTellsRow.holds Try.pinned (OpenSpec.ofChange Rows.detectTellsSpec) :=
  OpenClaim.holds_of_wide 3 Try.f3 rfl rfl rfl rfl rfl rfl rfl ⟨rfl, rfl, rfl, rfl, rfl⟩ rfl rfl rfl rfl rfl (by kernel_rfl) Try.func3 (by kernel_rfl)
    (of_decide_eq_true (by kernel_rfl)) (by unfold Func.isWrapper; first | (rw [if_pos (by decide +kernel)]; kernel_rfl) | (rw [if_neg (by decide +kernel)]; exact ⟨rfl, rfl⟩))
    (fun os started H enc _ => lifted os started H enc)

theorem proved : Rows.DetectTellsSaid := over
#print axioms proved
end Go.Proofs.Ytljenpfccmfnbaa.detectTells
