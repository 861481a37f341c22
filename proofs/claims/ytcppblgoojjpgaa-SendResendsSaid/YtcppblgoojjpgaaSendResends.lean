/- SendResends holds for any right Send, any number, any time from 0 to 2^40: who is sent again stands where it stood, with its note, once more, and all others stay. No condition. -/
import Derived.Test.YtcppblgoojjpgaaSendUni
import Derived.Test.YtcppblgoojjpgaaLaw
namespace Go.Proofs.Ytcppblgoojjpgaa.sendResends
open Go.ChangeShapes Go.WideShapes Go.ChangeAt Go.RowKit Go.Shelf
attribute [-go_sem] run_eql_struct run_neq_struct

theorem any_snoc (p : Fl → Bool) (l : List Fl) (j : Nat) (hj : j < l.length) : (l.take (j + 1)).any p = ((l.take j).any p || p (l.getD j .zero)) := by
  rw [List.take_succ_eq_append_getElem hj, List.any_append]
  simp [List.getD, hj]
theorem facts {n ww cc : Int} {l : List Fl} {n' ww' cc' : Int} {L : List Fl} {seq now : Int} {f : Fl} {ok : Bool} (hr : Sd.right ⟨n, l, ww, cc⟩ = true) (hp : Sd.resend ⟨n, l, ww, cc⟩ seq now = (⟨n', L, ww', cc'⟩, f, ok)) :
    n' = n ∧ ww' = ww ∧ cc' = cc ∧ L.length = l.length ∧ (∀ j, j < l.length → ((l.getD j .zero).q = seq → L.getD j .zero = f ∧ f = Sd.again (l.getD j .zero) now) ∧ ((l.getD j .zero).q ≠ seq → L.getD j .zero = l.getD j .zero)) ∧ (l.take l.length).any (isq seq) = ok := by
  unfold Sd.resend at hp
  obtain ⟨-, -, -, -, h5⟩ := right_bd hr
  rw [List.take_length]
  rcases idx_spec (isq seq) l .zero with ⟨g1, g2⟩ | ⟨i, hi, g1, g2, g3⟩
  · dsimp only at hp
    rw [g1, if_pos (by omega)] at hp
    simp only [Prod.mk.injEq, Sd.mk.injEq] at hp
    obtain ⟨⟨rfl, rfl, rfl, rfl⟩, rfl, rfl⟩ := hp
    refine ⟨rfl, rfl, rfl, rfl, fun j hj => ⟨fun h => ?_, fun _ => rfl⟩, ?_⟩
    · have := g2 j hj
      unfold isq at this
      rw [h, beq_self_eq_true] at this
      cases this
    · rw [List.any_eq_false]
      intro x hx
      obtain ⟨j, hj, rfl⟩ := List.mem_iff_getElem.1 hx
      have := g2 j hj
      simpa [List.getD, hj] using this
  · dsimp only at hp
    rw [g1, if_neg (by omega), Int.toNat_natCast] at hp
    simp only [Prod.mk.injEq, Sd.mk.injEq] at hp
    obtain ⟨⟨rfl, rfl, rfl, rfl⟩, rfl, rfl⟩ := hp
    have hiq : (l.getD i .zero).q = seq := by simpa [isq] using g2
    refine ⟨rfl, rfl, rfl, List.length_set, fun j hj => ?_, ?_⟩
    · rw [getD_set l i j _ hi]
      by_cases hji : j = i
      · subst hji
        rw [if_pos rfl]
        exact ⟨fun _ => ⟨rfl, rfl⟩, fun h => absurd hiq h⟩
      · rw [if_neg hji]
        refine ⟨fun h => ?_, fun _ => rfl⟩
        have hne : (l.getD j .zero).q ≠ (l.getD i .zero).q := by
          rcases Nat.lt_or_gt_of_ne hji with h' | h'
          · have := chain_rise _ l _ h5 j i h' hi; omega
          · have := chain_rise _ l _ h5 i j h' hj; omega
        exact absurd (h.trans hiq.symm) hne
    · rw [List.any_eq_true]
      exact ⟨l.getD i .zero, by simp [List.getD, hi], g2⟩

set_option maxRecDepth 100000 in
set_option maxHeartbeats 8000000 in
theorem walk (w : World) (n : Int) (A : Option Addr) (k c : Nat) (l : List Fl) (ww cc : Int) (hl : k ≤ c) (hm : c ≤ maxLen) (hn : l.length = k) (hN : Fls w A l) (hb : -9223372036854775808 ≤ n ∧ n ≤ 9223372036854775807) (hw : -9223372036854775808 ≤ ww ∧ ww ≤ 9223372036854775807) (hc : -9223372036854775808 ≤ cc ∧ cc ≤ 9223372036854775807) (hf : ∀ f ∈ l, f.wf) (seq : Int) (wu : (Lit.int .i64 seq).wf = true) (now : Int) (wn : (Lit.int .i64 now).wf = true) :
    Calls Try.prog 6 #[.agg #[.int .i64 n, .slice A k c, .int .i64 ww, .int .i64 cc], .int .i64 seq, .int .i64 now] w fun e w' => e = .returned (.bool true) ∧ Below w.heap.size w w' := by
  unfold maxLen at hm
  have z0 := zero_send
  have z1 := zero_fl
  have Hn := Lib.hid hn
  have HN := Lib.hid hN
  obtain ⟨W0, hW0⟩ : ∃ V, w.alloc (seO n A k c ww cc) = V := ⟨_, rfl⟩
  have R0 : W0.heap[w.heap.size]? = some (seO n A k c ww cc) := by rw [← hW0]; exact a_new w _
  have BW : Below w.heap.size w W0 := by rw [← hW0]; exact (Below.refl _ _).alloc (Nat.le_refl _) _
  clear hn hN hb hw hc hf wu wn
  obtain ⟨r, hr⟩ : ∃ r, Sd.right ⟨n, l, ww, cc⟩ = r := ⟨_, rfl⟩
  have HR := Lib.hid hr
  by_cases hgood : r = true ∧ 0 ≤ now ∧ now ≤ 1099511627776
  · obtain ⟨rfl, n0, n1⟩ := hgood
    obtain ⟨h1, h2, h3, h4, h5⟩ := right_bd hr
    have h8 : k ≤ 8 := by rw [← Hn.out]; exact h4
    obtain ⟨n', L, ww', cc', f, ok, hp⟩ : ∃ n' L ww' cc' f ok, Sd.resend ⟨n, l, ww, cc⟩ seq now = (⟨n', L, ww', cc'⟩, f, ok) := ⟨_, _, _, _, _, _, rfl⟩
    obtain ⟨rfl, rfl, rfl, hLn, hLj, hok⟩ := facts hr hp
    have HP := Lib.hid hp
    have HLn := Lib.hid (hLn.trans Hn.out)
    have HLj := Lib.hid hLj
    have HOK := Lib.hid hok
    have HA := Lib.hid (right_all hr).2.2
    clear hr hp hLn hLj hok h5 h4
    have d0 : decide (now < 0) = false := decide_eq_false (by omega)
    have d1 : decide (1099511627776 < now) = false := decide_eq_false (by omega)
    go_enter Try.func6, Try.ntmps6
    go_wp2_with fail
    refine (small_any _).mono ?_
    rintro e w1 ⟨rfl, hb⟩
    have R0 := row_kept R0 hb (row_lt R0)
    have BW := BW.trans (hb.mono BW.size)
    have K0 := row_cells R0
    clear hb
    go_wp2_with fail
    refine (right_to _ n' ww' cc' A k c l Hn.out (HN.out.below BW) (by omega) HR.out).mono ?_
    rintro e w2 ⟨rfl, hb⟩
    have R0 := row_kept R0 hb (row_lt R0)
    have BW := BW.trans (hb.mono BW.size)
    clear hb K0
    have K0 := row_cells R0
    go_wp2_with fail
    refine (resend_to HR.out Hn.out (HN.out.below BW) HP.out HLn.out).mono ?_
    rintro e w3 ⟨A1, c1, rfl, hO, hb⟩
    have R0 := alloc2 (row_kept R0 hb (row_lt R0)) (seO n' A1 k c1 ww' cc') (flO f.q f.u f.v f.s f.c f.a f.t)
    have BW := (BW.trans (hb.mono BW.size)).trans ((below_alloc2 w3 (seO n' A1 k c1 ww' cc') (flO f.q f.u f.v f.s f.c f.a f.t)).mono (BW.trans (hb.mono BW.size)).size)
    have N1 : Fls ((w3.alloc (seO n' A1 k c1 ww' cc')).alloc (flO f.q f.u f.v f.s f.c f.a f.t)) A1 L := Fls.alloc2 hO.fls _ _
    have R8 := a_lift (p := flO f.q f.u f.v f.s f.c f.a f.t) (a_new w3 (seO n' A1 k c1 ww' cc'))
    have R9 := a_new2 w3 (seO n' A1 k c1 ww' cc') (flO f.q f.u f.v f.s f.c f.a f.t)
    have N0 := HN.out.below BW
    clear hb K0 hO
    have K0 := row_cells R0
    have K8 := row_cells R8
    go_wp2
    go_loopw [11, 12] (fun h i wr => ∃ (j : Nat) (hd : Bool), j ≤ k ∧ i = .int .i64 j ∧ h = .bool hd ∧ Hid ((l.take j).any (isq seq) = hd) ∧ Below ((w3.alloc (seO n' A1 k c1 ww' cc')).alloc (flO f.q f.u f.v f.s f.c f.a f.t)).heap.size ((w3.alloc (seO n' A1 k c1 ww' cc')).alloc (flO f.q f.u f.v f.s f.c f.a f.t)) wr) (fun _ i _ => k - (intOf i).toNat)
    case atStart => exact ⟨0, false, Nat.zero_le _, rfl, rfl, (rfl : (l.take 0).any (isq seq) = false), Below.refl _ _⟩
    case round =>
      obtain ⟨j, hd, hj, rfl, rfl, HD, hB⟩ := hrel
      have k0 := row_kept R0 hB (row_lt R0)
      have k8 := row_kept R8 hB (row_lt R8)
      have k9 := row_kept R9 hB (row_lt R9)
      clear K0 K8 R0 R8 R9
      have K0 := row_cells k0
      have K8 := row_cells k8
      have K9 := row_cells k9
      by_cases hjk : j < k
      · obtain ⟨b, off, rfl, hbb, c0, d1, d2, d3, d4, d5, d6⟩ := (Fls.below N0 hB).at (i := j) (by rw [Hn.out]; exact hjk)
        have hjl : j < l.length := by rw [Hn.out]; exact hjk
        obtain ⟨y1, y2⟩ := HLj.out j hjl
        have hs := any_snoc (isq seq) l j hjl
        have hta := HA.out (l.getD j .zero) (by simp [List.getD, hjl])
        rw [HD.out] at hs
        have N1' := Fls.below N1 hB
        have hlm : ∃ m, L.getD j .zero = m := ⟨_, rfl⟩
        generalize l.getD j .zero = a at c0 d1 d2 d3 d4 d5 d6 y1 y2 hs hta
        obtain ⟨aq, au, av, az, ac, aa, at'⟩ := a
        dsimp only at c0 d1 d2 d3 d4 d5 d6 y1 y2 hta
        have q0 : (0 : Int) ≤ (j : Int) := by omega
        have q1 : (j : Int) < (k : Int) := by omega
        obtain ⟨b', off', rfl, hbb', e0, e1, e2, e3, e4, e5, e6⟩ := (show Fls _ A1 L from Nums.alloc N1' (flO aq au av az ac aa at')).at (i := j) (by rw [HLn.out]; exact hjk)
        have KA := fun (o : Obj) => row_cells (a_lift (p := o) k0)
        have KB := fun (o : Obj) => row_cells (a_lift (p := o) k8)
        have KC := row_cells (a_new wr (flO aq au av az ac aa at'))
        have ht1 : aq = n' - 1 ∨ aq ≤ n' - 1 := by omega
        have ht2 : 1 ≤ at' := hta.2.2.1
        have ht3 : at' ≤ 1073741824 := hta.2.2.2
        clear hta ht1 N1' hlm
        by_cases hq : aq = seq
        · obtain ⟨f1, f2⟩ := y1 hq
          subst hq
          unfold Sd.again at f2
          dsimp only at f2
          obtain ⟨m, hmm⟩ : ∃ m, min (at' + 1) 1073741824 = m := ⟨_, rfl⟩
          rw [hmm] at f2
          rw [f1, f2] at e0 e1 e2 e3 e4 e5 e6
          rw [f2] at K9 k9
          rw [f2] at hB
          dsimp only at e0 e1 e2 e3 e4 e5 e6 K9 k9
          have HFIN := Lib.hid (fun o => (hB.alloc hB.size (flO aq au av az ac aa at')).alloc (hB.alloc hB.size _).size o)
          have KD := row_cells (a_lift (p := flO aq au av az ac now m) (a_new wr (flO aq au av az ac aa at')))
          have KE := row_cells (a_new2 wr (flO aq au av az ac aa at') (flO aq au av az ac now m))
          have KF := row_cells (alloc2 k9 (flO aq au av az ac aa at') (flO aq au av az ac now m))
          have hne := fl_neq ⟨aq, au, av, az, ac, now, m⟩ ⟨aq, au, av, az, ac, now, m⟩
          rw [decide_eq_true rfl] at hne
          have hno := no_neq au av az ac au av az ac
          have hmin : ∀ W : World, (Builtin.min_ #[3, 3] 3 #[.int .i64 (at' + 1), .int .i64 1073741824]).run Try.prog W = .ok (.int .i64 m) W := fun W => by
            rcases Int.lt_or_le 1073741824 (at' + 1) with h | h
            · simp [Builtin.min_, Builtin.min2, h]; omega
            · simp [Builtin.min_, Builtin.min2, show ¬ 1073741824 < at' + 1 by omega]; omega
          have HS := Lib.hid (show (l.take (j + 1)).any (isq aq) = true by rw [hs]; unfold isq; dsimp only; rw [beq_self_eq_true, Bool.or_true])
          have HF2 := Lib.hid f2
          clear hs y1 y2 f1 f2 hmm hB
          go_wp2
          go_roundw
          case rel => exact ⟨j + 1, true, by omega, by go_num, rfl, HS, by rw [HF2.out]; exact HFIN.out _⟩
          case measure => simp [intOf]; omega
        · have f1 := y2 hq
          rw [f1] at e0 e1 e2 e3 e4 e5 e6
          dsimp only at e0 e1 e2 e3 e4 e5 e6
          have hq' : (aq == seq) = false := by simpa using hq
          have HFIN := Lib.hid (fun o => (hB.alloc hB.size (flO aq au av az ac aa at')).alloc (hB.alloc hB.size _).size o)
          have KD := row_cells (a_lift (p := flO aq au av az ac aa at') (a_new wr (flO aq au av az ac aa at')))
          have KE := row_cells (a_new2 wr (flO aq au av az ac aa at') (flO aq au av az ac aa at'))
          have hne := fl_neq ⟨aq, au, av, az, ac, aa, at'⟩ ⟨aq, au, av, az, ac, aa, at'⟩
          rw [decide_eq_true rfl] at hne
          have HS := Lib.hid (show (l.take (j + 1)).any (isq seq) = hd by rw [hs]; unfold isq; dsimp only; rw [hq', Bool.or_false])
          clear hs y1 y2 f1 hB K9
          go_wp2
          go_roundw
          case rel => exact ⟨j + 1, hd, by omega, by go_num, rfl, HS, HFIN.out _⟩
          case measure => simp [intOf]; omega
      · obtain rfl : j = k := by omega
        have hj2 : (l.take l.length).any (isq seq) = hd := by rw [Hn.out]; exact HD.out
        have hoh : ok = hd := by rw [← HOK.out]; exact hj2
        subst hoh
        have HFIN := Lib.hid (BW.trans (hB.mono BW.size))
        clear hj2 hB
        cases ok
        all_goals
          go_wp2
          go_ret
          exact ⟨rfl, HFIN.out⟩
  · have h3 : r = false ∨ (r = true ∧ now < 0) ∨ (r = true ∧ 0 ≤ now ∧ 1099511627776 < now) := by
      cases r
      · exact Or.inl rfl
      · simp at hgood ⊢; omega
    clear hgood hr
    rcases h3 with rfl | ⟨rfl, n0⟩ | ⟨rfl, n0, n1⟩
    all_goals
      go_enter Try.func6, Try.ntmps6
      go_wp2_with fail
      refine (small_any _).mono ?_
      rintro e w1 ⟨rfl, hb⟩
      have R0 := row_kept R0 hb (row_lt R0)
      have BW := BW.trans (hb.mono BW.size)
      have K0 := row_cells R0
      clear hb
      go_wp2_with fail
      refine (right_to _ n ww cc A k c l Hn.out (HN.out.below BW) (by omega) HR.out).mono ?_
      rintro e w2 ⟨rfl, hb⟩
      go_wp2_with fail
      go_ret
      exact ⟨rfl, BW.trans (hb.mono BW.size)⟩
theorem own : ownKnob Try.prog.godebug = none := by kernel_rfl
theorem laid : laidOutB Try.prog = true := by kernel_rfl

set_option maxRecDepth 100000 in
theorem lifted (os : Os) (started : os.Started) (H : Type) (enc : TypeId × Value → H) :
    ReturnsInHanded {} Try.checked os 6 .any (Rows.sendResendsSpec.pre6 enc Try.prog Try.f6 Rows.sendResendsRow.domain false) (Rows.sendResendsSpec.post enc Try.prog Try.f6 false true false false) := by
  refine law_lifted (C := Try.checked) (B := 4) own started (by kernel_rfl) Try.func6
    (ChangeSpec.witness6 (enc := enc) (C := Try.checked) false ⟨#[], #[.agg #[.int .i64 0, .slice none 0 0, .int .i64 0, .int .i64 0], .int .i64 0, .int .i64 0], []⟩ 8 (by kernel_rfl) (by kernel_rfl) (by kernel_rfl) (by kernel_rfl))
    rfl rfl Try.underlying4 laid (of_decide_eq_true (by kernel_rfl)) ?_ ?_
  · intro ds hl
    rw [Try.params6] at hl
    match ds, hl with
    | [d0, d1, d2], _ => rfl
  · intro W base args ds ps hval hA hlt hz
    rw [Try.params6] at hA hval
    obtain ⟨v0, vs0, d0, ds0, p0, q0, hargs, rfl, rfl, h0, r0⟩ := trodAll_cons hA
    obtain ⟨v1, vs1, d1, ds1, p1, q1, rfl, rfl, rfl, h1, r1⟩ := trodAll_cons r0
    obtain ⟨v2, vs2, d2, ds2, p2, q2, rfl, rfl, rfl, h2, r2⟩ := trodAll_cons r1
    obtain ⟨rfl, rfl, rfl⟩ := trodAll_nil r2
    obtain rfl : args = #[v0, v1, v2] := by cases args; simp_all
    obtain ⟨n0, A0, k0, c0, l0, ww0, cc0, rfl, hl0, hm0, hn0, hN0, hb0, hw0, hc0, hf0⟩ := open_send (hval 0 24 v0 rfl rfl) h0
    obtain ⟨a1, rfl, rfl, rfl, w1⟩ := open_int Try.underlying3 (hval 1 3 v1 rfl rfl) h1
    obtain ⟨a2, rfl, rfl, rfl, w2⟩ := open_int Try.underlying3 (hval 2 3 v2 rfl rfl) h2
    exact walk W n0 A0 k0 c0 l0 ww0 cc0 hl0 hm0 hn0 hN0 hb0 hw0 hc0 hf0 a1 w1 a2 w2

theorem over : Rows.sendResendsRow.holds Try.pinned (OpenSpec.ofChange Rows.sendResendsSpec) :=
  OpenClaim.holds_of_wide 6 Try.f6 rfl rfl rfl rfl rfl rfl rfl ⟨rfl, rfl, rfl, rfl, rfl⟩ rfl rfl rfl rfl rfl (by kernel_rfl) Try.func6 (by kernel_rfl)
    (of_decide_eq_true (by kernel_rfl)) (by unfold Func.isWrapper; first | (rw [if_pos (by decide +kernel)]; kernel_rfl) | (rw [if_neg (by decide +kernel)]; exact ⟨rfl, rfl⟩))
    (fun os started H enc _ => lifted os started H enc)

theorem proved : Rows.SendResendsSaid := over
#print axioms proved
end Go.Proofs.Ytcppblgoojjpgaa.sendResends
