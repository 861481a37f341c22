/- ChannelWaits holds for any right channel, any time from 0 to 2^40, how many at most: nothing is sent again ahead of its time, and all that is due is, as far as it may be. No condition. -/
import Derived.Test.YtiecebncnflpiaaOpen12
import Derived.Test.YtiecebncnflpiaaLaw
namespace Go.Proofs.Ytiecebncnflpiaa.channelWaits
open Go.ChangeShapes Go.WideShapes Go.ChangeAt Go.RowKit Go.Shelf
open sendUni2
attribute [-go_sem] run_eql_struct run_neq_struct

theorem dues_snoc (l : List Fl) (now rto : Int) (j : Nat) (hj : j < l.length) : (dues (l.take (j + 1)) now rto).length = (dues (l.take j) now rto).length + if (l.getD j .zero).a + rto ≤ now then 1 else 0 := by
  have hg : l.getD j .zero = l[j] := by simp [List.getD, hj]
  unfold dues
  rw [List.take_succ_eq_append_getElem hj, List.filter_append, List.length_append, hg]
  congr 1
  rw [List.filter_cons]
  by_cases h : l[j].a + rto ≤ now
  · rw [if_pos (by simpa using h), if_pos h]; rfl
  · rw [if_neg (by simpa using h), if_neg h]; rfl
theorem run_min2 (ts : Array TypeId) (t : TypeId) (a b m : Int) (hm : (if b < a then b else a) = m) (W : World) : (Builtin.min_ ts t #[.int .i64 a, .int .i64 b]).run Try.prog W = .ok (.int .i64 m) W := by
  rw [← hm]
  by_cases h : b < a
  · simp [Builtin.min_, Builtin.min2, h]
  · simp [Builtin.min_, Builtin.min2, h]
theorem run_max2 (ts : Array TypeId) (t : TypeId) (a b m : Int) (hm : (if a < b then b else a) = m) (W : World) : (Builtin.max_ ts t #[.int .i64 a, .int .i64 b]).run Try.prog W = .ok (.int .i64 m) W := by
  rw [← hm]
  by_cases h : a < b
  · simp [Builtin.max_, Builtin.max2, h]
  · simp [Builtin.max_, Builtin.max2, h]

set_option maxRecDepth 100000 in
set_option maxHeartbeats 8000000 in
theorem walk (w : World) (n : Int) (A : Option Addr) (k c : Nat) (l : List Fl) (ww cc s v r f : Int) (h : Bool) (hl : k ≤ c) (hm : c ≤ maxLen) (hn : l.length = k) (hN : Fls w A l) (now : Int) (w1' : (Lit.int .i64 now).wf = true) (most : Int) (w2' : (Lit.int .i64 most).wf = true) :
    Calls Try.prog 6 #[chV n A k c ww cc s v r f h, .int .i64 now, .int .i64 most] w fun e w' => e = .returned (.bool true) ∧ Below w.heap.size w w' := by
  unfold maxLen at hm
  have zc := zero_chan
  have z1 := zero_fl
  have Hn := Lib.hid hn
  have HN := Lib.hid hN
  obtain ⟨W0, hW0⟩ : ∃ V, w.alloc (chO n A k c ww cc s v r f h) = V := ⟨_, rfl⟩
  have R0 : W0.heap[w.heap.size]? = some (chO n A k c ww cc s v r f h) := by rw [← hW0]; exact a_new w _
  have BW : Below w.heap.size w W0 := by rw [← hW0]; exact (Below.refl _ _).alloc (Nat.le_refl _) _
  clear hn hN w1' w2'
  obtain ⟨x, hx⟩ : ∃ x, (Sd.right ⟨n, l, ww, cc⟩ && Rtt.right ⟨s, v, r, f, h⟩) = x := ⟨_, rfl⟩
  have HX := Lib.hid hx
  by_cases hgood : x = true ∧ 0 ≤ now ∧ now ≤ 1099511627776
  · obtain ⟨rfl, n0, n1⟩ := hgood
    rw [Bool.and_eq_true] at hx
    obtain ⟨hr, hR⟩ := hx
    obtain ⟨h1, h2, h3, h4, h5⟩ := right_bd hr
    have h8 : k ≤ 8 := by rw [← Hn.out]; exact h4
    have ho := (Rtt.right_iff _).1 hR
    have hr64 : 2 ≤ r ∧ r ≤ 64 := ⟨ho.2.2.2.2.1, ho.2.2.2.2.2.1⟩
    have hsn := dues_snoc l now r
    have ha := (right_all hr).2.1
    have htl := tick_l (c := ⟨⟨n, l, ww, cc⟩, ⟨s, v, r, f, h⟩⟩) (now := now) (most := most) hr
    dsimp only at htl
    obtain ⟨D, hD⟩ : ∃ D, dues l now r = D := ⟨_, rfl⟩
    rw [hD] at htl
    have hDl : D.length ≤ 8 := by rw [← hD, ← Hn.out] at *; exact Nat.le_trans (List.length_filter_le _ _) h8
    obtain ⟨kk, hkk⟩ : ∃ kk, D.length = kk := ⟨_, rfl⟩
    rw [hkk] at hDl
    have HR := Lib.hid hr
    have HRt := Lib.hid hR
    have HSN := Lib.hid hsn
    have HA := Lib.hid ha
    have HD := Lib.hid hD
    have HKK := Lib.hid hkk
    have HTL := Lib.hid htl
    have Hho := Lib.hid ho
    clear hr hR hsn ha hD hkk htl ho h5 h4
    have d0 : decide (now < 0) = false := decide_eq_false (by omega)
    have d1 : decide (1099511627776 < now) = false := decide_eq_false (by omega)
    go_enter Try.func6, Try.ntmps6
    go_wp2_with fail
    refine (small_any _).mono ?_
    rintro e w1 ⟨rfl, hb⟩
    have R0 := row_kept R0 hb (row_lt R0)
    have BW := BW.trans (hb.mono BW.size)
    have K0 := row_cells R0
    clear hb
    go_wp2_with fail
    refine (chright_to Hn.out (HN.out.below BW) (by omega) HX.out).mono ?_
    rintro e w2 ⟨rfl, hb⟩
    have R0 := row_kept R0 hb (row_lt R0)
    have BW := BW.trans (hb.mono BW.size)
    clear hb K0
    have K0 := row_cells R0
    go_wp2
    clear K0
    go_loopw [8, 9] (fun q i wr => ∃ (j kj : Nat), j ≤ k ∧ i = .int .i64 j ∧ q = .int .i64 kj ∧ kj ≤ j ∧ Hid ((dues (l.take j) now r).length = kj) ∧ Below w2.heap.size w2 wr) (fun _ i _ => k - (intOf i).toNat)
    case atStart => exact ⟨0, 0, Nat.zero_le _, rfl, rfl, Nat.zero_le _, (rfl : (dues (l.take 0) now r).length = 0), Below.refl _ _⟩
    case round =>
      obtain ⟨j, kj, hj, rfl, rfl, hkj, HK, hB⟩ := hrel
      have k0 := row_kept R0 hB (row_lt R0)
      have BW := BW.trans (hB.mono BW.size)
      clear R0
      have K0 := row_cells k0
      by_cases hjk : j < k
      · obtain ⟨b, off, rfl, hbb, c0, e1, e2, e3, e4, e5, e6⟩ := (Fls.below HN.out BW).at (i := j) (by rw [Hn.out]; exact hjk)
        have hjl : j < l.length := by rw [Hn.out]; exact hjk
        have hsn := HSN.out j hjl
        have hta := HA.out (l.getD j .zero) (by simp [List.getD, hjl])
        rw [HK.out] at hsn
        generalize l.getD j .zero = a at c0 e1 e2 e3 e4 e5 e6 hsn hta
        obtain ⟨aq, au, av, az, ac, aa, at'⟩ := a
        dsimp only at c0 e1 e2 e3 e4 e5 e6 hsn hta
        have q0 : (0 : Int) ≤ (j : Int) := by omega
        have q1 : (j : Int) < (k : Int) := by omega
        have e7 : IntKind.i64.wrap (aa + r) = aa + r := IntWalk.i64_in _ (by omega)
        by_cases hq : aa + r ≤ now
        · rw [if_pos hq] at hsn
          have HS := Lib.hid hsn
          have hq' : decide (aa + r ≤ now) = true := decide_eq_true hq
          have HFIN := Lib.hid (below_drewN hB)
          clear hsn e1 e2 e3 e4 e6 c0 hB
          go_wp2
          go_quiet (fail)
          go_wp2
          go_roundw
          case rel => exact ⟨j + 1, kj + 1, by omega, by go_num, by go_num, by omega, HS, HFIN.out _⟩
          case measure => simp [intOf]; omega
        · rw [if_neg hq] at hsn
          have HS := Lib.hid (show (dues (l.take (j + 1)) now r).length = kj from hsn)
          have hq' : decide (aa + r ≤ now) = false := decide_eq_false hq
          have HFIN := Lib.hid (below_drewN hB)
          clear hsn e1 e2 e3 e4 e6 c0 hB
          go_wp2
          go_quiet (fail)
          go_wp2
          go_roundw
          case rel => exact ⟨j + 1, kj, by omega, by go_num, rfl, by omega, HS, HFIN.out _⟩
          case measure => simp [intOf]; omega
      · obtain rfl : j = k := by omega
        have hkd : kj = kk := by
          have := HK.out
          rw [List.take_of_length_le (by rw [Hn.out]; exact Nat.le_refl _), HD.out, HKK.out] at this
          exact this.symm
        subst hkd
        have N0 := HN.out.below BW
        clear hB
        by_cases hnone : kj = 0 ∨ most < 1
        · have htick : Ch.tick ⟨⟨n, l, ww, cc⟩, ⟨s, v, r, f, h⟩⟩ now most = (⟨⟨n, l, ww, cc⟩, ⟨s, v, r, f, h⟩⟩, []) := by
            unfold Ch.tick
            rw [if_pos]
            rcases hnone with h0 | h0
            · left
              dsimp only
              rw [dues_q, HD.out, List.eq_nil_of_length_eq_zero (HKK.out.trans h0)]
              rfl
            · exact Or.inr h0
          have HT := Lib.hid htick
          obtain ⟨mx, hmx⟩ : ∃ mx : Int, (if most < 0 then 0 else most) = mx := ⟨_, rfl⟩
          have hr1 := run_max2 #[3, 3] 3 most 0 mx hmx
          have hr2 := run_min2 #[3, 3] 3 (kj : Int) mx 0 (by
            rw [← hmx]
            rcases hnone with h0 | h0
            · subst h0
              split <;> split <;> omega
            · split <;> split <;> omega)
          clear htick hmx
          go_wp2_with fail
          refine (tick_to HR.out HRt.out Hn.out N0 ⟨n0, n1⟩ HT.out Hn.out (m := 0) rfl).mono ?_
          rintro e w3 ⟨A1, c1, B, d, rfl, ⟨hO, -⟩, hb⟩
          have R0 := a_lift (p := chO n A1 j c1 ww cc s v r f h) (row_kept k0 hb (row_lt k0))
          have R10 := a_new w3 (chO n A1 j c1 ww cc s v r f h)
          have N1 : Fls _ A1 l := Nums.alloc hO.fls (chO n A1 j c1 ww cc s v r f h)
          have N0 : Fls _ A l := Nums.alloc (Fls.below N0 hb) (chO n A1 j c1 ww cc s v r f h)
          have BW := (BW.trans (hb.mono BW.size)).alloc (BW.trans (hb.mono BW.size)).size (chO n A1 j c1 ww cc s v r f h)
          clear hb K0 hO k0 hnone
          have K0 := row_cells R0
          have K10 := row_cells R10
          go_wp2_with fail
          refine (chsame_to Hn.out Hn.out N1 N0 (by omega) (x := true) (by simp)).mono ?_
          rintro e w4 ⟨rfl, hb⟩
          have R0 := row_kept R0 hb (row_lt R0)
          have R10 := row_kept R10 hb (row_lt R10)
          have BW := BW.trans (hb.mono BW.size)
          clear hb K0 K10
          have K0 := row_cells R0
          have K10 := row_cells R10
          go_wp2
          go_ret
          exact ⟨rfl, BW⟩
        · have hk1 : 1 ≤ kj ∧ 1 ≤ most := by omega
          have hD0 : D ≠ [] := fun h0 => by
            have := HKK.out
            rw [h0] at this
            simp at this
            omega
          have htick := HTL.out hD0 hk1.2
          obtain ⟨m, hm'⟩ : ∃ m, ((D.take most.toNat).map fun f => Sd.again f now).length = m := ⟨_, rfl⟩
          have hmk : m = min most.toNat kj := by rw [← hm', List.length_map, List.length_take, HKK.out]
          obtain ⟨L2, hL2⟩ : ∃ L2, Sd.redo now ((D.take most.toNat).map Fl.q) l = L2 := ⟨_, rfl⟩
          have hL2l : L2.length = j := by rw [← hL2]; unfold Sd.redo; rw [List.length_map]; exact Hn.out
          have hbk : Rtt.backoff ⟨s, v, r, f, h⟩ = ⟨s, v, min (2 * r) 64, min (f + 1) 100, h⟩ := Rtt.backoff_of _ Hho.out
          rw [hL2, hbk] at htick
          obtain ⟨r2, hr2'⟩ : ∃ r2, min (2 * r) 64 = r2 := ⟨_, rfl⟩
          obtain ⟨f2, hf2⟩ : ∃ f2, min (f + 1) 100 = f2 := ⟨_, rfl⟩
          obtain ⟨w2', hw2⟩ : ∃ w2', max (ww / 2) 1 = w2' := ⟨_, rfl⟩
          rw [hr2', hf2, hw2] at htick
          have HT := Lib.hid htick
          have HL2 := Lib.hid hL2l
          have HM := Lib.hid hm'
          obtain ⟨mx, hmx⟩ : ∃ mx : Int, (if most < 0 then 0 else most) = mx := ⟨_, rfl⟩
          have hr1 := run_max2 #[3, 3] 3 most 0 mx hmx
          have hr2 := run_min2 #[3, 3] 3 (kj : Int) mx (m : Int) (by rw [← hmx, hmk]; split <;> split <;> omega)
          have hr3 := run_min2 #[3, 3] 3 64 (2 * r) r2 (by rw [← hr2']; split <;> omega)
          have hr4 := run_max2 #[3, 3] 3 1 (ww / 2) w2' (by rw [← hw2]; split <;> omega)
          have eq1 : IntKind.i64.wrap (ww.tdiv 2) = ww / 2 := by rw [Int.tdiv_eq_ediv_of_nonneg (by omega)]; exact IntWalk.i64_in _ (by omega)
          have m0 : 0 < m := by omega
          have m0' : (0 : Int) < (m : Int) := by omega
          have EQ := Lib.hid (And.intro hr1 (And.intro hr2 (And.intro hr3 hr4)))
          clear htick hmx hL2 hL2l hm' hmk hr2' hf2 hw2 hbk hD0 hr1 hr2 hr3 hr4 eq1
          go_wp2_with fail
          refine (tick_to HR.out HRt.out Hn.out N0 ⟨n0, n1⟩ HT.out HL2.out HM.out).mono ?_
          rintro e w3 ⟨A1, c1, B, d, rfl, -, hb⟩
          have R0 := a_lift (p := chO n A1 j c1 w2' 0 s v r2 f2 h) (row_kept k0 hb (row_lt k0))
          have R10 := a_new w3 (chO n A1 j c1 w2' 0 s v r2 f2 h)
          have BW := (BW.trans (hb.mono BW.size)).alloc (BW.trans (hb.mono BW.size)).size (chO n A1 j c1 w2' 0 s v r2 f2 h)
          clear hb K0 k0 hnone
          have K0 := row_cells R0
          have K10 := row_cells R10
          obtain ⟨hr1, hr2, hr3, hr4⟩ := EQ.out
          have hm0 : ((m : Int) == 0) = false := beq_eq_false_iff_ne.2 (by omega)
          go_wp2
          go_ret
          exact ⟨rfl, BW⟩
  · have h3 : x = false ∨ (x = true ∧ now < 0) ∨ (x = true ∧ 0 ≤ now ∧ 1099511627776 < now) := by
      cases x
      · exact Or.inl rfl
      · simp at hgood ⊢; omega
    clear hgood hx
    rcases h3 with rfl | ⟨rfl, n0⟩ | ⟨rfl, n0, n1⟩
    all_goals
      go_enter Try.func6, Try.ntmps6
      go_wp2_with fail
      refine (small_any _).mono ?_
      rintro e w1 ⟨rfl, hb⟩
      have R0 := row_kept R0 hb (row_lt R0)
      have BW := BW.trans (hb.mono BW.size)
      have K0 := row_cells R0
      clear hb
      go_wp2_with fail
      refine (chright_to Hn.out (HN.out.below BW) (by omega) HX.out).mono ?_
      rintro e w2 ⟨rfl, hb⟩
      go_wp2_with fail
      go_ret
      exact ⟨rfl, BW.trans (hb.mono BW.size)⟩
theorem own : ownKnob Try.prog.godebug = none := by kernel_rfl
theorem laid : laidOutB Try.prog = true := by kernel_rfl

set_option maxRecDepth 100000 in
theorem lifted (os : Os) (started : os.Started) (H : Type) (enc : TypeId × Value → H) :
    ReturnsInHanded {} Try.checked os 6 .any (Rows.channelWaitsSpec.pre6 enc Try.prog Try.f6 Rows.channelWaitsRow.domain false) (Rows.channelWaitsSpec.post enc Try.prog Try.f6 false true false false) := by
  refine law_lifted (C := Try.checked) (B := 4) own started (by kernel_rfl) Try.func6
    (ChangeSpec.witness6 (enc := enc) (C := Try.checked) false ⟨#[], #[.agg #[.int .i64 0, .slice none 0 0, .int .i64 0, .int .i64 0, .int .i64 0, .int .i64 0, .int .i64 0, .int .i64 0, .bool false], .int .i64 0, .int .i64 0], []⟩ 8 (by kernel_rfl) (by kernel_rfl) (by kernel_rfl) (by kernel_rfl))
    rfl rfl Try.underlying4 laid (of_decide_eq_true (by kernel_rfl)) ?_ ?_
  · intro ds hl
    rw [Try.params6] at hl
    match ds, hl with
    | [d0, d1, d2], _ => rfl
  · intro W base args ds ps hval hA hlt hz
    rw [Try.params6] at hA hval
    obtain ⟨v0, vs0, d0, ds0, p0, q0, hargs, rfl, rfl, h0, r0⟩ := trodAll_cons hA
    obtain ⟨v1, vs1, d1, ds1, p1, q1, rfl, rfl, rfl, h1, r1⟩ := trodAll_cons r0
    obtain ⟨v2, vs2, d2, ds2, p2, q2, rfl, rfl, rfl, h2, r2⟩ := trodAll_cons r1
    obtain ⟨rfl, rfl, rfl⟩ := trodAll_nil r2
    obtain rfl : args = #[v0, v1, v2] := by cases args; simp_all
    obtain ⟨n0, A0, k0, c0, l0, ww0, cc0, sx0, ux0, rx0, fx0, gx0, rfl, hl0, hm0, hn0, hN0⟩ := open_chan (hval 0 28 v0 rfl rfl) h0
    obtain ⟨a1, rfl, rfl, rfl, w1⟩ := open_int Try.underlying3 (hval 1 3 v1 rfl rfl) h1
    obtain ⟨a2, rfl, rfl, rfl, w2⟩ := open_int Try.underlying3 (hval 2 3 v2 rfl rfl) h2
    exact walk W n0 A0 k0 c0 l0 ww0 cc0 sx0 ux0 rx0 fx0 gx0 hl0 hm0 hn0 hN0 a1 w1 a2 w2

theorem over : Rows.channelWaitsRow.holds Try.pinned (OpenSpec.ofChange Rows.channelWaitsSpec) :=
  OpenClaim.holds_of_wide 6 Try.f6 rfl rfl rfl rfl rfl rfl rfl ⟨rfl, rfl, rfl, rfl, rfl⟩ rfl rfl rfl rfl rfl (by kernel_rfl) Try.func6 (by kernel_rfl)
    (of_decide_eq_true (by kernel_rfl)) (by unfold Func.isWrapper; first | (rw [if_pos (by decide +kernel)]; kernel_rfl) | (rw [if_neg (by decide +kernel)]; exact ⟨rfl, rfl⟩))
    (fun os started H enc _ => lifted os started H enc)

theorem proved : Rows.ChannelWaitsSaid := over
#print axioms proved
end Go.Proofs.Ytiecebncnflpiaa.channelWaits
