/- ChannelVoids holds for any right channel, any user, any time from 0 to 2^40: behind Void no note of that user is sent, and all others are sent as they were. No condition. -/
import Derived.Test.YtiecebncnflpiaaOpen12
import Derived.Test.YtiecebncnflpiaaLaw
namespace Go.Proofs.Ytiecebncnflpiaa.channelVoids
open Go.ChangeShapes Go.WideShapes Go.ChangeAt Go.RowKit Go.Shelf
open sendUni2
attribute [-go_sem] run_eql_struct run_neq_struct

theorem dues_void (l : List Fl) (now rto user : Int) : dues (l.map (Fl.void user)) now rto = (dues l now rto).map (Fl.void user) := by
  unfold dues
  rw [List.filter_map]
  congr 1
  refine List.filter_congr fun f _ => ?_
  dsimp only [Function.comp]
  unfold Fl.void
  split <;> rfl
theorem again_void (user now : Int) (f : Fl) : Sd.again (Fl.void user f) now = Fl.void user (Sd.again f now) := by
  unfold Sd.again Fl.void
  dsimp only
  split <;> rfl
theorem tick_void {s : Sd} {e : Rtt} (h : Sd.right s = true) (now user : Int) : (Ch.tick ⟨Sd.void s user, e⟩ now 100).2 = (Ch.tick ⟨s, e⟩ now 100).2.map (Fl.void user) := by
  have hd : dues (Sd.void s user).l now e.rto = (dues s.l now e.rto).map (Fl.void user) := dues_void s.l now e.rto user
  by_cases h0 : dues s.l now e.rto = []
  · have h1 : Ch.tick ⟨s, e⟩ now 100 = (⟨s, e⟩, []) := by
      unfold Ch.tick
      rw [if_pos (Or.inl (by rw [dues_q]; exact List.map_eq_nil_iff.2 h0))]
    have h2 : Ch.tick ⟨Sd.void s user, e⟩ now 100 = (⟨Sd.void s user, e⟩, []) := by
      unfold Ch.tick
      rw [if_pos (Or.inl (by rw [dues_q]; exact List.map_eq_nil_iff.2 (hd.trans (by rw [h0]; rfl))))]
    rw [h1, h2]
    rfl
  · rw [tick_l (c := ⟨s, e⟩) h h0 (by decide), tick_l (c := ⟨Sd.void s user, e⟩) (void_right h user) (by
      dsimp only
      rw [hd]
      exact fun h1 => h0 (List.map_eq_nil_iff.1 h1)) (by decide)]
    dsimp only
    rw [hd, ← List.map_take, List.map_map, List.map_map]
    exact List.map_congr_left fun f _ => again_void user now f

set_option maxRecDepth 100000 in
set_option maxHeartbeats 8000000 in
theorem walk (w : World) (n : Int) (A : Option Addr) (k c : Nat) (l : List Fl) (ww cc s v r f : Int) (h : Bool) (hl : k ≤ c) (hm : c ≤ maxLen) (hn : l.length = k) (hN : Fls w A l) (user : Int) (w1' : (Lit.int .i64 user).wf = true) (now : Int) (w2' : (Lit.int .i64 now).wf = true) :
    Calls Try.prog 7 #[chV n A k c ww cc s v r f h, .int .i64 user, .int .i64 now] w fun e w' => e = .returned (.bool true) ∧ Below w.heap.size w w' := by
  unfold maxLen at hm
  have zc := zero_chan
  have z1 := zero_fl
  have Hn := Lib.hid hn
  have HN := Lib.hid hN
  obtain ⟨W0, hW0⟩ : ∃ V, w.alloc (chO n A k c ww cc s v r f h) = V := ⟨_, rfl⟩
  have R0 : W0.heap[w.heap.size]? = some (chO n A k c ww cc s v r f h) := by rw [← hW0]; exact a_new w _
  have BW : Below w.heap.size w W0 := by rw [← hW0]; exact (Below.refl _ _).alloc (Nat.le_refl _) _
  clear hn hN w1' w2'
  obtain ⟨x, hx⟩ : ∃ x, (Sd.right ⟨n, l, ww, cc⟩ && Rtt.right ⟨s, v, r, f, h⟩) = x := ⟨_, rfl⟩
  have HX := Lib.hid hx
  by_cases hgood : x = true ∧ 0 ≤ now ∧ now ≤ 1099511627776 ∧ user ≠ 0
  · obtain ⟨rfl, n0, n1, n2⟩ := hgood
    rw [Bool.and_eq_true] at hx
    obtain ⟨hr, hR⟩ := hx
    obtain ⟨h1, h2, h3, h4, h5⟩ := right_bd hr
    have h8 : k ≤ 8 := by rw [← Hn.out]; exact h4
    have htv := tick_void (e := ⟨s, v, r, f, h⟩) hr now user
    obtain ⟨na, la, wa, ca, sa, va, ra, fa, ha', G, hp⟩ : ∃ na la wa ca sa va ra fa ha' G, Ch.tick ⟨⟨n, l, ww, cc⟩, ⟨s, v, r, f, h⟩⟩ now 100 = (⟨⟨na, la, wa, ca⟩, ⟨sa, va, ra, fa, ha'⟩⟩, G) := ⟨_, _, _, _, _, _, _, _, _, _, rfl⟩
    obtain ⟨nv, lv, wv, cv, hv⟩ : ∃ nv lv wv cv, Sd.void ⟨n, l, ww, cc⟩ user = ⟨nv, lv, wv, cv⟩ := ⟨_, _, _, _, rfl⟩
    have hrv := void_right hr user
    have hlv : lv.length = k := by
      have := congrArg (fun s : Sd => s.l.length) hv
      dsimp only [Sd.void] at this
      rw [List.length_map] at this
      exact this.symm.trans Hn.out
    rw [hv] at hrv htv
    obtain ⟨nb, lb, wb, cb, sb, vb, rb, fb, hb', G2, hq⟩ : ∃ nb lb wb cb sb vb rb fb hb' G2, Ch.tick ⟨⟨nv, lv, wv, cv⟩, ⟨s, v, r, f, h⟩⟩ now 100 = (⟨⟨nb, lb, wb, cb⟩, ⟨sb, vb, rb, fb, hb'⟩⟩, G2) := ⟨_, _, _, _, _, _, _, _, _, _, rfl⟩
    rw [hp, hq] at htv
    dsimp only at htv
    obtain ⟨ka, hka⟩ : ∃ ka, la.length = ka := ⟨_, rfl⟩
    obtain ⟨kb, hkb⟩ : ∃ kb, lb.length = kb := ⟨_, rfl⟩
    obtain ⟨m, hm'⟩ : ∃ m, G.length = m := ⟨_, rfl⟩
    have HR := Lib.hid hr
    have HRt := Lib.hid hR
    have HP := Lib.hid hp
    have HV := Lib.hid hv
    have HRv := Lib.hid hrv
    have Hlv := Lib.hid hlv
    have HQ := Lib.hid hq
    have Hka := Lib.hid hka
    have Hkb := Lib.hid hkb
    have Hm := Lib.hid hm'
    have Hm2 := Lib.hid (show G2.length = m by rw [htv, List.length_map, hm'])
    have HLg := Lib.hid (fun (j : Nat) (hj : j < m) => show G2.getD j .zero = Fl.void user (G.getD j .zero) by
      rw [htv]
      have ht2 : j < G.length := by omega
      simp [List.getD, ht2])
    clear hr hR hp hv hrv hlv hq hka hkb hm' htv h5 h4
    have d0 : decide (now < 0) = false := decide_eq_false (by omega)
    have d1 : decide (1099511627776 < now) = false := decide_eq_false (by omega)
    have d2 : (user == 0) = false := beq_eq_false_iff_ne.2 n2
    go_enter Try.func7, Try.ntmps7
    go_wp2_with fail
    refine (small_any _).mono ?_
    rintro e w1 ⟨rfl, hb⟩
    have R0 := row_kept R0 hb (row_lt R0)
    have BW := BW.trans (hb.mono BW.size)
    have K0 := row_cells R0
    clear hb
    go_wp2_with fail
    refine (chright_to Hn.out (HN.out.below BW) (by omega) HX.out).mono ?_
    rintro e w2 ⟨rfl, hb⟩
    have R0 := row_kept R0 hb (row_lt R0)
    have BW := BW.trans (hb.mono BW.size)
    clear hb K0
    have K0 := row_cells R0
    go_wp2_with fail
    refine (tick_to HR.out HRt.out Hn.out (HN.out.below BW) ⟨n0, n1⟩ HP.out Hka.out Hm.out).mono ?_
    rintro e w3 ⟨A1, c1, B, d, rfl, ⟨-, hO⟩, hb⟩
    have R0 := a_lift (p := chO na A1 ka c1 wa ca sa va ra fa ha') (row_kept R0 hb (row_lt R0))
    have BW := (BW.trans (hb.mono BW.size)).alloc (BW.trans (hb.mono BW.size)).size (chO na A1 ka c1 wa ca sa va ra fa ha')
    have NB : Fls _ B G := Nums.alloc hO.fls (chO na A1 ka c1 wa ca sa va ra fa ha')
    have hmb := OwnR.len hO
    unfold maxLen at hmb
    have hmb : m ≤ 9223372036854775807 := by omega
    clear hb K0 hO
    have K0 := row_cells R0
    go_wp2_with fail
    refine (chvoid_to HR.out Hn.out (HN.out.below BW) HV.out).mono ?_
    rintro e w4 ⟨A2, c2, rfl, hO, hb⟩
    have R0 := row_kept R0 hb (row_lt R0)
    have BW := BW.trans (hb.mono BW.size)
    have NB := Fls.below NB hb
    clear hb K0
    go_wp2_with fail
    refine (tick_to HRv.out HRt.out Hlv.out hO.fls ⟨n0, n1⟩ HQ.out Hkb.out Hm2.out).mono ?_
    clear hO
    rintro e w5 ⟨A3, c3, B2, d2', rfl, ⟨-, hO⟩, hb⟩
    have R0 := a_lift (p := chO nb A3 kb c3 wb cb sb vb rb fb hb') (row_kept R0 hb (row_lt R0))
    have BW := (BW.trans (hb.mono BW.size)).alloc (BW.trans (hb.mono BW.size)).size (chO nb A3 kb c3 wb cb sb vb rb fb hb')
    have NB : Fls _ B G := Nums.alloc (Fls.below NB hb) (chO nb A3 kb c3 wb cb sb vb rb fb hb')
    have NB2 : Fls _ B2 G2 := Nums.alloc hO.fls (chO nb A3 kb c3 wb cb sb vb rb fb hb')
    clear hb hO R0
    obtain ⟨V, hV⟩ : ∃ V, w5.alloc (chO nb A3 kb c3 wb cb sb vb rb fb hb') = V := ⟨_, rfl⟩
    rw [hV] at BW NB NB2
    go_wp2
    clear hV
    go_loopw [12] (fun i wr => ∃ j : Nat, j ≤ m ∧ i = .int .i64 j ∧ Below V.heap.size V wr) (fun i _ => m - (intOf i).toNat)
    case atStart => exact ⟨0, Nat.zero_le _, rfl, Below.refl _ _⟩
    case round =>
      obtain ⟨j, hj, rfl, hB⟩ := hrel
      by_cases hjk : j < m
      · obtain ⟨b, off, rfl, hbb, c0, d1', d2', d3, d4, d5, d6⟩ := (Fls.below NB hB).at (i := j) (by rw [Hm.out]; exact hjk)
        have hg := HLg.out j hjk
        have N1' := Fls.below NB2 hB
        generalize G.getD j .zero = fl at c0 d1' d2' d3 d4 d5 d6 hg
        obtain ⟨fq, fu, fv, fs, fc, fa', ft⟩ := fl
        dsimp only at c0 d1' d2' d3 d4 d5 d6
        have q0 : (0 : Int) ≤ (j : Int) := by omega
        have q1 : (j : Int) < (m : Int) := by omega
        by_cases hu : fu = user
        · subst hu
          unfold Fl.void at hg
          rw [if_pos rfl] at hg
          dsimp only at hg
          obtain ⟨b', off', rfl, hbb', e0, e1, e2, e3, e4, e5, e6⟩ := (show Fls _ B2 G2 from Nums.alloc N1' (flO fq 0 0 0 0 fa' ft)).at (i := j) (by rw [Hm2.out]; exact hjk)
          rw [hg] at e0 e1 e2 e3 e4 e5 e6
          dsimp only at e0 e1 e2 e3 e4 e5 e6
          clear hg N1'
          have hne := fl_neq ⟨fq, 0, 0, 0, 0, fa', ft⟩ ⟨fq, 0, 0, 0, 0, fa', ft⟩
          rw [decide_eq_true rfl] at hne
          have KC := row_cells (a_new wr (flO fq 0 0 0 0 fa' ft))
          have HFIN := Lib.hid (below_drewN (hB.alloc hB.size (flO fq 0 0 0 0 fa' ft)))
          clear hB
          go_wp2
          go_quiet (fail)
          go_wp2
          go_roundw
          case rel => exact ⟨j + 1, by omega, by go_num, HFIN.out _⟩
          case measure => simp [intOf]; omega
        · unfold Fl.void at hg
          rw [if_neg hu] at hg
          obtain ⟨b', off', rfl, hbb', e0, e1, e2, e3, e4, e5, e6⟩ := (show Fls _ B2 G2 from Nums.alloc N1' (flO fq fu fv fs fc fa' ft)).at (i := j) (by rw [Hm2.out]; exact hjk)
          rw [hg] at e0 e1 e2 e3 e4 e5 e6
          dsimp only at e0 e1 e2 e3 e4 e5 e6
          clear hg N1'
          have hne := fl_neq ⟨fq, fu, fv, fs, fc, fa', ft⟩ ⟨fq, fu, fv, fs, fc, fa', ft⟩
          rw [decide_eq_true rfl] at hne
          have hu' : (fu == user) = false := by simpa using hu
          have KC := row_cells (a_new wr (flO fq fu fv fs fc fa' ft))
          have HFIN := Lib.hid (below_drewN (hB.alloc hB.size (flO fq fu fv fs fc fa' ft)))
          clear hB
          go_wp2
          go_quiet (fail)
          go_wp2
          go_roundw
          case rel => exact ⟨j + 1, by omega, by go_num, HFIN.out _⟩
          case measure => simp [intOf]; omega
      · obtain rfl : j = m := by omega
        go_wp2
        go_ret
        exact ⟨rfl, BW.trans (hB.mono BW.size)⟩
  · have h3 : x = false ∨ (x = true ∧ now < 0) ∨ (x = true ∧ 0 ≤ now ∧ 1099511627776 < now) ∨ (x = true ∧ 0 ≤ now ∧ now ≤ 1099511627776 ∧ user = 0) := by
      cases x
      · exact Or.inl rfl
      · simp at hgood ⊢; omega
    clear hgood hx
    rcases h3 with rfl | ⟨rfl, n0⟩ | ⟨rfl, n0, n1⟩ | ⟨rfl, n0, n1, n2⟩
    all_goals
      go_enter Try.func7, Try.ntmps7
      go_wp2_with fail
      refine (small_any _).mono ?_
      rintro e w1 ⟨rfl, hb⟩
      have R0 := row_kept R0 hb (row_lt R0)
      have BW := BW.trans (hb.mono BW.size)
      have K0 := row_cells R0
      clear hb
      go_wp2_with fail
      refine (chright_to Hn.out (HN.out.below BW) (by omega) HX.out).mono ?_
      rintro e w2 ⟨rfl, hb⟩
      go_wp2_with fail
      go_ret
      exact ⟨rfl, BW.trans (hb.mono BW.size)⟩
theorem own : ownKnob Try.prog.godebug = none := by kernel_rfl
theorem laid : laidOutB Try.prog = true := by kernel_rfl

set_option maxRecDepth 100000 in
theorem lifted (os : Os) (started : os.Started) (H : Type) (enc : TypeId × Value → H) :
    ReturnsInHanded {} Try.checked os 7 .any (Rows.channelVoidsSpec.pre6 enc Try.prog Try.f7 Rows.channelVoidsRow.domain false) (Rows.channelVoidsSpec.post enc Try.prog Try.f7 false true false false) := by
  refine law_lifted (C := Try.checked) (B := 4) own started (by kernel_rfl) Try.func7
    (ChangeSpec.witness6 (enc := enc) (C := Try.checked) false ⟨#[], #[.agg #[.int .i64 0, .slice none 0 0, .int .i64 0, .int .i64 0, .int .i64 0, .int .i64 0, .int .i64 0, .int .i64 0, .bool false], .int .i64 0, .int .i64 0], []⟩ 8 (by kernel_rfl) (by kernel_rfl) (by kernel_rfl) (by kernel_rfl))
    rfl rfl Try.underlying4 laid (of_decide_eq_true (by kernel_rfl)) ?_ ?_
  · intro ds hl
    rw [Try.params7] at hl
    match ds, hl with
    | [d0, d1, d2], _ => rfl
  · intro W base args ds ps hval hA hlt hz
    rw [Try.params7] at hA hval
    obtain ⟨v0, vs0, d0, ds0, p0, q0, hargs, rfl, rfl, h0, r0⟩ := trodAll_cons hA
    obtain ⟨v1, vs1, d1, ds1, p1, q1, rfl, rfl, rfl, h1, r1⟩ := trodAll_cons r0
    obtain ⟨v2, vs2, d2, ds2, p2, q2, rfl, rfl, rfl, h2, r2⟩ := trodAll_cons r1
    obtain ⟨rfl, rfl, rfl⟩ := trodAll_nil r2
    obtain rfl : args = #[v0, v1, v2] := by cases args; simp_all
    obtain ⟨n0, A0, k0, c0, l0, ww0, cc0, sx0, ux0, rx0, fx0, gx0, rfl, hl0, hm0, hn0, hN0⟩ := open_chan (hval 0 28 v0 rfl rfl) h0
    obtain ⟨a1, rfl, rfl, rfl, w1⟩ := open_int Try.underlying3 (hval 1 3 v1 rfl rfl) h1
    obtain ⟨a2, rfl, rfl, rfl, w2⟩ := open_int Try.underlying3 (hval 2 3 v2 rfl rfl) h2
    exact walk W n0 A0 k0 c0 l0 ww0 cc0 sx0 ux0 rx0 fx0 gx0 hl0 hm0 hn0 hN0 a1 w1 a2 w2

theorem over : Rows.channelVoidsRow.holds Try.pinned (OpenSpec.ofChange Rows.channelVoidsSpec) :=
  OpenClaim.holds_of_wide 7 Try.f7 rfl rfl rfl rfl rfl rfl rfl ⟨rfl, rfl, rfl, rfl, rfl⟩ rfl rfl rfl rfl rfl (by kernel_rfl) Try.func7 (by kernel_rfl)
    (of_decide_eq_true (by kernel_rfl)) (by unfold Func.isWrapper; first | (rw [if_pos (by decide +kernel)]; kernel_rfl) | (rw [if_neg (by decide +kernel)]; exact ⟨rfl, rfl⟩))
    (fun os started H enc _ => lifted os started H enc)

theorem proved : Rows.ChannelVoidsSaid := over
#print axioms proved
end Go.Proofs.Ytiecebncnflpiaa.channelVoids
