/- SendDues holds for any right Send, any two times, any two waits, from 0 to 2^40: those are due that were waited for long enough, rising, and more are the later it is, and the shorter one waits. No condition. -/
import Derived.Test.YtcppblgoojjpgaaSendUni
import Derived.Test.YtcppblgoojjpgaaLaw
namespace Go.Proofs.Ytcppblgoojjpgaa.sendDues
open Go.ChangeShapes Go.WideShapes Go.ChangeAt Go.RowKit Go.Shelf
attribute [-go_sem] run_eql_struct run_neq_struct

theorem due_at (l : List Fl) (now rto : Int) (j : Nat) (hj : j < l.length) (h : (l.getD j .zero).a + rto ≤ now) : (Sd.due (l.take j) now rto).length < (Sd.due l now rto).length ∧ (Sd.due l now rto).getD (Sd.due (l.take j) now rto).length 0 = (l.getD j .zero).q := by
  have e : Sd.due l now rto = Sd.due (l.take j) now rto ++ ((l.getD j .zero).q :: Sd.due (l.drop (j + 1)) now rto) := by
    have e2 : l = l.take j ++ (l.getD j .zero :: l.drop (j + 1)) := by
      have : l.getD j .zero = l[j] := by simp [List.getD, hj]
      rw [this, ← List.drop_eq_getElem_cons hj, List.take_append_drop]
    conv => lhs; rw [e2]
    unfold Sd.due
    rw [List.filter_append, List.map_append, List.filter_cons, if_pos (by simpa using h)]
    rfl
  rw [e]
  refine ⟨by rw [List.length_append]; simp, ?_⟩
  simp [List.getD]
theorem due_mono (l : List Fl) (a b c d : Int) (h : ∀ x : Int, x + b ≤ a → x + d ≤ c) : (Sd.due l a b).length ≤ (Sd.due l c d).length := by
  unfold Sd.due
  rw [List.length_map, List.length_map]
  induction l with
  | nil => simp
  | cons f r ih =>
    rw [List.filter_cons, List.filter_cons]
    by_cases h1 : f.a + b ≤ a
    · rw [if_pos (by simpa using h1), if_pos (by simpa using h _ h1), List.length_cons, List.length_cons]; omega
    · rw [if_neg (by simpa using h1)]
      split
      · rw [List.length_cons]; omega
      · exact ih

set_option maxRecDepth 100000 in
set_option maxHeartbeats 8000000 in
theorem walk (w : World) (n : Int) (A : Option Addr) (k c : Nat) (l : List Fl) (ww cc : Int) (hl : k ≤ c) (hm : c ≤ maxLen) (hn : l.length = k) (hN : Fls w A l) (hb : -9223372036854775808 ≤ n ∧ n ≤ 9223372036854775807) (hw : -9223372036854775808 ≤ ww ∧ ww ≤ 9223372036854775807) (hc : -9223372036854775808 ≤ cc ∧ cc ≤ 9223372036854775807) (hf : ∀ f ∈ l, f.wf) (now : Int) (w1' : (Lit.int .i64 now).wf = true) (later : Int) (w2' : (Lit.int .i64 later).wf = true) (rto : Int) (w3' : (Lit.int .i64 rto).wf = true) (longer : Int) (w4' : (Lit.int .i64 longer).wf = true) :
    Calls Try.prog 9 #[.agg #[.int .i64 n, .slice A k c, .int .i64 ww, .int .i64 cc], .int .i64 now, .int .i64 later, .int .i64 rto, .int .i64 longer] w fun e w' => e = .returned (.bool true) ∧ Below w.heap.size w w' := by
  unfold maxLen at hm
  have z0 := zero_send
  have z1 := zero_fl
  have Hn := Lib.hid hn
  have HN := Lib.hid hN
  obtain ⟨W0, hW0⟩ : ∃ V, w.alloc (seO n A k c ww cc) = V := ⟨_, rfl⟩
  have R0 : W0.heap[w.heap.size]? = some (seO n A k c ww cc) := by rw [← hW0]; exact a_new w _
  have BW : Below w.heap.size w W0 := by rw [← hW0]; exact (Below.refl _ _).alloc (Nat.le_refl _) _
  clear hn hN hb hw hc hf w1' w2' w3' w4'
  obtain ⟨r, hr⟩ : ∃ r, Sd.right ⟨n, l, ww, cc⟩ = r := ⟨_, rfl⟩
  have HR := Lib.hid hr
  by_cases hgood : r = true ∧ 0 ≤ now ∧ now ≤ later ∧ later ≤ 1099511627776 ∧ 0 ≤ rto ∧ rto ≤ longer ∧ longer ≤ 1099511627776
  · obtain ⟨rfl, n0, n1, n2, n3, n4, n5⟩ := hgood
    obtain ⟨h1, h2, h3, h4, h5⟩ := right_bd hr
    have h8 : k ≤ 8 := by rw [← Hn.out]; exact h4
    have HA := Lib.hid (right_all hr).2.1
    have hm1 := due_mono l now rto later rto (fun x h => by omega)
    have hm2 := due_mono l now longer now rto (fun x h => by omega)
    have hat := due_at l now rto
    have hsn := Sd.due_snoc l now rto
    have hln := Sd.due_len l now rto
    obtain ⟨ds, hds⟩ : ∃ ds, Sd.due l now rto = ds := ⟨_, rfl⟩
    obtain ⟨d2, hd2⟩ : ∃ ds, Sd.due l later rto = ds := ⟨_, rfl⟩
    obtain ⟨d3, hd3⟩ : ∃ ds, Sd.due l now longer = ds := ⟨_, rfl⟩
    rw [hds, hd2] at hm1
    rw [hd3, hds] at hm2
    rw [hds] at hat hln
    have D1 := Lib.hid hds
    have D2 := Lib.hid hd2
    have D3 := Lib.hid hd3
    have HAT := Lib.hid hat
    have HSN := Lib.hid hsn
    have hds8 : ds.length ≤ 8 := by rw [Hn.out] at hln; omega
    clear hr h5 h4 hat hsn hln hds hd2 hd3
    have t0 : decide (now < 0) = false := decide_eq_false (by omega)
    have t1 : decide (later < now) = false := decide_eq_false (by omega)
    have t2 : decide (1099511627776 < later) = false := decide_eq_false (by omega)
    have t3 : decide (rto < 0) = false := decide_eq_false (by omega)
    have t4 : decide (longer < rto) = false := decide_eq_false (by omega)
    have t5 : decide (1099511627776 < longer) = false := decide_eq_false (by omega)
    go_enter Try.func9, Try.ntmps9
    go_wp2_with fail
    refine (small_any _).mono ?_
    rintro e w1 ⟨rfl, hb⟩
    have R0 := row_kept R0 hb (row_lt R0)
    have BW := BW.trans (hb.mono BW.size)
    have K0 := row_cells R0
    clear hb
    go_wp2_with fail
    refine (right_to _ n ww cc A k c l Hn.out (HN.out.below BW) (by omega) HR.out).mono ?_
    rintro e w2 ⟨rfl, hb⟩
    have R0 := row_kept R0 hb (row_lt R0)
    have BW := BW.trans (hb.mono BW.size)
    clear hb K0
    have K0 := row_cells R0
    go_wp2_with fail
    refine (due_right HR.out Hn.out (HN.out.below BW) ⟨n3, by omega⟩ D1.out).mono ?_
    rintro e w3 ⟨A1, c1, rfl, hO, hb⟩
    have R0 := row_kept R0 hb (row_lt R0)
    have BW := BW.trans (hb.mono BW.size)
    have N1 : Nums .i64 w3 A1 ds := hO.nums
    have N0 := HN.out.below BW
    clear hb K0 hO
    have K0 := row_cells R0
    go_wp2
    go_loopw [13, 14] (fun q i wr => ∃ (j kk : Nat), j ≤ k ∧ i = .int .i64 j ∧ q = .int .i64 kk ∧ kk ≤ ds.length ∧ Hid ((Sd.due (l.take j) now rto).length = kk) ∧ Below w3.heap.size w3 wr) (fun _ i _ => k - (intOf i).toNat)
    case atStart => exact ⟨0, 0, Nat.zero_le _, rfl, rfl, Nat.zero_le _, (rfl : (Sd.due (l.take 0) now rto).length = 0), Below.refl _ _⟩
    case round =>
      obtain ⟨j, kk, hj, rfl, rfl, hkk, HK, hB⟩ := hrel
      have k0 := row_kept R0 hB (row_lt R0)
      clear K0 R0
      have K0 := row_cells k0
      by_cases hjk : j < k
      · obtain ⟨b, off, rfl, hbb, c0, e1, e2, e3, e4, e5, e6⟩ := (Fls.below N0 hB).at (i := j) (by rw [Hn.out]; exact hjk)
        have hjl : j < l.length := by rw [Hn.out]; exact hjk
        have hat := HAT.out j hjl
        have hsn := HSN.out j hjl
        have hta := HA.out (l.getD j .zero) (by simp [List.getD, hjl])
        generalize l.getD j .zero = a at c0 e1 e2 e3 e4 e5 e6 hat hsn hta
        obtain ⟨aq, au, av, az, ac, aa, at'⟩ := a
        dsimp only at c0 e1 e2 e3 e4 e5 e6 hat hsn hta
        have q0 : (0 : Int) ≤ (j : Int) := by omega
        have q1 : (j : Int) < (k : Int) := by omega
        by_cases hq : aa + rto ≤ now
        · obtain ⟨y1, y2⟩ := hat hq
          rw [HK.out] at y1 y2
          rw [if_pos hq] at hsn
          obtain ⟨b', off', rfl, hbb', f0⟩ := Nums.at (Nums.below N1 hB) y1
          rw [y2] at f0
          have HS := Lib.hid (show (Sd.due (l.take (j + 1)) now rto).length = kk + 1 by rw [hsn, List.length_append, HK.out]; rfl)
          have g0 : (0 : Int) ≤ (kk : Int) := by omega
          have g1 : (kk : Int) < (ds.length : Int) := by omega
          have HFIN := Lib.hid (below_drewN hB)
          clear hat y2 hsn e1 e2 e3 e4 e6
          go_wp2
          go_quiet (fail)
          go_wp2
          go_roundw
          case rel => exact ⟨j + 1, kk + 1, by omega, by go_num, by go_num, by omega, HS, HFIN.out _⟩
          case measure => simp [intOf]; omega
        · rw [if_neg hq, List.append_nil] at hsn
          have HS := Lib.hid (show (Sd.due (l.take (j + 1)) now rto).length = kk by rw [hsn, HK.out])
          clear hat hsn e1 e2 e3 e4 e6
          go_wp2
          go_roundw
          case rel => exact ⟨j + 1, kk, by omega, by go_num, rfl, by omega, HS, hB⟩
          case measure => simp [intOf]; omega
      · obtain rfl : j = k := by omega
        have hkd : kk = ds.length := by
          have := HK.out
          rw [List.take_of_length_le (by rw [Hn.out]; exact Nat.le_refl _), D1.out] at this
          exact this.symm
        subst hkd
        have BW := BW.trans (hB.mono BW.size)
        have N0' := Fls.below N0 hB
        clear hB hkk
        go_wp2_with fail
        refine (due_right HR.out Hn.out N0' ⟨n3, by omega⟩ D2.out).mono ?_
        rintro e w4 ⟨A2, c2, rfl, -, hb⟩
        have R0 := row_kept k0 hb (row_lt k0)
        have BW := BW.trans (hb.mono BW.size)
        have N0' := Fls.below N0' hb
        clear hb K0
        have K0 := row_cells R0
        have p1 : (ds.length : Int) ≤ (d2.length : Int) := by omega
        go_wp2_with fail
        refine (due_right HR.out Hn.out N0' ⟨by omega, by omega⟩ D3.out).mono ?_
        rintro e w5 ⟨A3, c3, rfl, -, hb⟩
        have BW := BW.trans (hb.mono BW.size)
        have p2 : (d3.length : Int) ≤ (ds.length : Int) := by omega
        clear hb K0
        go_wp2
        go_ret
        exact ⟨rfl, BW⟩
  · have h3 : r = false ∨ (r = true ∧ now < 0) ∨ (r = true ∧ 0 ≤ now ∧ later < now) ∨ (r = true ∧ 0 ≤ now ∧ now ≤ later ∧ 1099511627776 < later) ∨ (r = true ∧ 0 ≤ now ∧ now ≤ later ∧ later ≤ 1099511627776 ∧ rto < 0) ∨ (r = true ∧ 0 ≤ now ∧ now ≤ later ∧ later ≤ 1099511627776 ∧ 0 ≤ rto ∧ longer < rto) ∨ (r = true ∧ 0 ≤ now ∧ now ≤ later ∧ later ≤ 1099511627776 ∧ 0 ≤ rto ∧ rto ≤ longer ∧ 1099511627776 < longer) := by
      cases r
      · exact Or.inl rfl
      · simp at hgood ⊢; omega
    clear hgood hr
    rcases h3 with rfl | ⟨rfl, n0⟩ | ⟨rfl, n0, n1⟩ | ⟨rfl, n0, n1, n2⟩ | ⟨rfl, n0, n1, n2, n3⟩ | ⟨rfl, n0, n1, n2, n3, n4⟩ | ⟨rfl, n0, n1, n2, n3, n4, n5⟩
    all_goals
      go_enter Try.func9, Try.ntmps9
      go_wp2_with fail
      refine (small_any _).mono ?_
      rintro e w1 ⟨rfl, hb⟩
      have R0 := row_kept R0 hb (row_lt R0)
      have BW := BW.trans (hb.mono BW.size)
      have K0 := row_cells R0
      clear hb
      go_wp2_with fail
      refine (right_to _ n ww cc A k c l Hn.out (HN.out.below BW) (by omega) HR.out).mono ?_
      rintro e w2 ⟨rfl, hb⟩
      go_wp2_with fail
      go_ret
      exact ⟨rfl, BW.trans (hb.mono BW.size)⟩
theorem own : ownKnob Try.prog.godebug = none := by kernel_rfl
theorem laid : laidOutB Try.prog = true := by kernel_rfl

set_option maxRecDepth 100000 in
theorem lifted (os : Os) (started : os.Started) (H : Type) (enc : TypeId × Value → H) :
    ReturnsInHanded {} Try.checked os 9 .any (Rows.sendDuesSpec.pre6 enc Try.prog Try.f9 Rows.sendDuesRow.domain false) (Rows.sendDuesSpec.post enc Try.prog Try.f9 false true false false) := by
  refine law_lifted (C := Try.checked) (B := 4) own started (by kernel_rfl) Try.func9
    (ChangeSpec.witness6 (enc := enc) (C := Try.checked) false ⟨#[], #[.agg #[.int .i64 0, .slice none 0 0, .int .i64 0, .int .i64 0], .int .i64 0, .int .i64 0, .int .i64 0, .int .i64 0], []⟩ 8 (by kernel_rfl) (by kernel_rfl) (by kernel_rfl) (by kernel_rfl))
    rfl rfl Try.underlying4 laid (of_decide_eq_true (by kernel_rfl)) ?_ ?_
  · intro ds hl
    rw [Try.params9] at hl
    match ds, hl with
    | [d0, d1, d2, d3, d4], _ => rfl
  · intro W base args ds ps hval hA hlt hz
    rw [Try.params9] at hA hval
    obtain ⟨v0, vs0, d0, ds0, p0, q0, hargs, rfl, rfl, h0, r0⟩ := trodAll_cons hA
    obtain ⟨v1, vs1, d1, ds1, p1, q1, rfl, rfl, rfl, h1, r1⟩ := trodAll_cons r0
    obtain ⟨v2, vs2, d2, ds2, p2, q2, rfl, rfl, rfl, h2, r2⟩ := trodAll_cons r1
    obtain ⟨v3, vs3, d3, ds3, p3, q3, rfl, rfl, rfl, h3, r3⟩ := trodAll_cons r2
    obtain ⟨v4, vs4, d4, ds4, p4, q4, rfl, rfl, rfl, h4, r4⟩ := trodAll_cons r3
    obtain ⟨rfl, rfl, rfl⟩ := trodAll_nil r4
    obtain rfl : args = #[v0, v1, v2, v3, v4] := by cases args; simp_all
    obtain ⟨n0, A0, k0, c0, l0, ww0, cc0, rfl, hl0, hm0, hn0, hN0, hb0, hw0, hc0, hf0⟩ := open_send (hval 0 24 v0 rfl rfl) h0
    obtain ⟨a1, rfl, rfl, rfl, w1⟩ := open_int Try.underlying3 (hval 1 3 v1 rfl rfl) h1
    obtain ⟨a2, rfl, rfl, rfl, w2⟩ := open_int Try.underlying3 (hval 2 3 v2 rfl rfl) h2
    obtain ⟨a3, rfl, rfl, rfl, w3⟩ := open_int Try.underlying3 (hval 3 3 v3 rfl rfl) h3
    obtain ⟨a4, rfl, rfl, rfl, w4⟩ := open_int Try.underlying3 (hval 4 3 v4 rfl rfl) h4
    exact walk W n0 A0 k0 c0 l0 ww0 cc0 hl0 hm0 hn0 hN0 hb0 hw0 hc0 hf0 a1 w1 a2 w2 a3 w3 a4 w4

theorem over : Rows.sendDuesRow.holds Try.pinned (OpenSpec.ofChange Rows.sendDuesSpec) :=
  OpenClaim.holds_of_wide 9 Try.f9 rfl rfl rfl rfl rfl rfl rfl ⟨rfl, rfl, rfl, rfl, rfl⟩ rfl rfl rfl rfl rfl (by kernel_rfl) Try.func9 (by kernel_rfl)
    (of_decide_eq_true (by kernel_rfl)) (by unfold Func.isWrapper; first | (rw [if_pos (by decide +kernel)]; kernel_rfl) | (rw [if_neg (by decide +kernel)]; exact ⟨rfl, rfl⟩))
    (fun os started H enc _ => lifted os started H enc)

theorem proved : Rows.SendDuesSaid := over
#print axioms proved
end Go.Proofs.Ytcppblgoojjpgaa.sendDues
