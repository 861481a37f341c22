/- SendAcks holds for any right Send, any two numbers, any time from 0 to 2^40: exactly what is acknowledged goes, and the rest stays as it is, in order. No condition. -/
import Derived.Test.YtcppblgoojjpgaaSendUni
import Derived.Test.YtcppblgoojjpgaaLaw
namespace Go.Proofs.Ytcppblgoojjpgaa.sendAcks
open Go.ChangeShapes Go.WideShapes Go.ChangeAt Go.RowKit Go.Shelf
attribute [-go_sem] run_eql_struct run_neq_struct

def stays (n ack sack : Int) (f : Fl) : Bool := !(decide (0 ≤ ack ∧ ack < n) && Sd.gone ack sack f)
theorem acked_l {n ww cc : Int} {l : List Fl} {ack sack now n' ww' cc' tk : Int} {L : List Fl} (hp : Sd.acked ⟨n, l, ww, cc⟩ ack sack now = (⟨n', L, ww', cc'⟩, tk)) : n' = n ∧ L = l.filter (stays n ack sack) := by
  unfold Sd.acked at hp
  split at hp
  · rename_i h0
    simp only [Prod.mk.injEq, Sd.mk.injEq] at hp
    obtain ⟨⟨rfl, rfl, rfl, rfl⟩, rfl⟩ := hp
    refine ⟨rfl, (List.filter_eq_self.2 fun f _ => ?_).symm⟩
    unfold stays
    rw [decide_eq_false (by dsimp only at h0; omega)]
    rfl
  · rename_i h0
    dsimp only at hp h0
    simp only [Prod.mk.injEq, Sd.mk.injEq] at hp
    obtain ⟨⟨rfl, rfl, rfl, rfl⟩, rfl⟩ := hp
    refine ⟨rfl, List.filter_congr fun f _ => ?_⟩
    unfold stays
    rw [decide_eq_true (show 0 ≤ ack ∧ ack < n by omega), Bool.true_and]
theorem filter_at (p : Fl → Bool) (l : List Fl) (j : Nat) (hj : j < l.length) (h : p (l.getD j .zero) = true) : ((l.take j).filter p).length < (l.filter p).length ∧ (l.filter p).getD ((l.take j).filter p).length .zero = l.getD j .zero := by
  have hg : l.getD j .zero = l[j] := by simp [List.getD, hj]
  have e : l.filter p = (l.take j).filter p ++ (l.getD j .zero :: (l.drop (j + 1)).filter p) := by
    have e2 : l = l.take j ++ (l.getD j .zero :: l.drop (j + 1)) := by rw [hg, ← List.drop_eq_getElem_cons hj, List.take_append_drop]
    conv => lhs; rw [e2]
    rw [List.filter_append, List.filter_cons, if_pos h]
  rw [e]
  refine ⟨by rw [List.length_append]; simp, ?_⟩
  simp [List.getD]
theorem filter_snoc (p : Fl → Bool) (l : List Fl) (j : Nat) (hj : j < l.length) : ((l.take (j + 1)).filter p).length = ((l.take j).filter p).length + if p (l.getD j .zero) = true then 1 else 0 := by
  have hg : l.getD j .zero = l[j] := by simp [List.getD, hj]
  rw [List.take_succ_eq_append_getElem hj, List.filter_append, List.length_append, hg]
  congr 1
  rw [List.filter_cons]
  split <;> rfl
theorem cases7 (n ack sack q u v s c a t : Int) (hq : 1 ≤ q ∧ q ≤ n - 1 ∧ n ≤ 1073741824) :
    (stays n ack sack ⟨q, u, v, s, c, a, t⟩ = false ∧ ((0 ≤ ack ∧ ack < n ∧ q ≤ ack) ∨ (0 ≤ ack ∧ ack < n ∧ ack < q ∧ 2 ≤ q - ack ∧ q - ack ≤ 8 ∧ (bits BinOp.and IntKind.i64 (sack / 2 ^ (q - ack - 2).toNat) 1 == 1) = true))) ∨
    (stays n ack sack ⟨q, u, v, s, c, a, t⟩ = true ∧ (ack < 0 ∨ (0 ≤ ack ∧ n ≤ ack) ∨ (0 ≤ ack ∧ ack < n ∧ ack < q ∧ q - ack < 2) ∨ (0 ≤ ack ∧ ack < n ∧ ack < q ∧ 2 ≤ q - ack ∧ 8 < q - ack) ∨ (0 ≤ ack ∧ ack < n ∧ ack < q ∧ 2 ≤ q - ack ∧ q - ack ≤ 8 ∧ (bits BinOp.and IntKind.i64 (sack / 2 ^ (q - ack - 2).toNat) 1 == 1) = false))) := by
  unfold stays
  by_cases h0 : 0 ≤ ack ∧ ack < n
  · rw [decide_eq_true h0, Bool.true_and]
    unfold Sd.gone
    dsimp only
    by_cases h1 : q ≤ ack
    · rw [decide_eq_true h1, Bool.true_or]
      exact Or.inl ⟨rfl, Or.inl ⟨h0.1, h0.2, h1⟩⟩
    · rw [decide_eq_false h1, Bool.false_or, IntWalk.i64_in (q - ack) (by omega), IntWalk.i64_in (q - ack - 2) (by omega)]
      unfold Sd.told
      by_cases h2 : q - ack < 2
      · rw [decide_eq_false (show ¬ (0 ≤ q - ack - 2 ∧ q - ack - 2 < 7) by omega), Bool.false_and]
        exact Or.inr ⟨rfl, by omega⟩
      · by_cases h3 : 8 < q - ack
        · rw [decide_eq_false (show ¬ (0 ≤ q - ack - 2 ∧ q - ack - 2 < 7) by omega), Bool.false_and]
          exact Or.inr ⟨rfl, by omega⟩
        · rw [decide_eq_true (show 0 ≤ q - ack - 2 ∧ q - ack - 2 < 7 by omega), Bool.true_and]
          cases hb : (bits BinOp.and IntKind.i64 (sack / 2 ^ (q - ack - 2).toNat) 1 == 1)
          · exact Or.inr ⟨rfl, Or.inr (Or.inr (Or.inr (Or.inr ⟨h0.1, h0.2, by omega, by omega, by omega, rfl⟩)))⟩
          · exact Or.inl ⟨rfl, Or.inr ⟨h0.1, h0.2, by omega, by omega, by omega, rfl⟩⟩
  · rw [decide_eq_false h0, Bool.false_and]
    exact Or.inr ⟨rfl, by omega⟩

set_option maxRecDepth 100000 in
set_option maxHeartbeats 8000000 in
theorem walk (w : World) (n : Int) (A : Option Addr) (k c : Nat) (l : List Fl) (ww cc : Int) (hl : k ≤ c) (hm : c ≤ maxLen) (hn : l.length = k) (hN : Fls w A l) (hb : -9223372036854775808 ≤ n ∧ n ≤ 9223372036854775807) (hw : -9223372036854775808 ≤ ww ∧ ww ≤ 9223372036854775807) (hc : -9223372036854775808 ≤ cc ∧ cc ≤ 9223372036854775807) (hf : ∀ f ∈ l, f.wf) (ack : Int) (wu : (Lit.int .i64 ack).wf = true) (sack : Int) (ws : (Lit.int .i64 sack).wf = true) (now : Int) (wn : (Lit.int .i64 now).wf = true) :
    Calls Try.prog 5 #[.agg #[.int .i64 n, .slice A k c, .int .i64 ww, .int .i64 cc], .int .i64 ack, .int .i64 sack, .int .i64 now] w fun e w' => e = .returned (.bool true) ∧ Below w.heap.size w w' := by
  unfold maxLen at hm
  have z0 := zero_send
  have z1 := zero_fl
  have Hn := Lib.hid hn
  have HN := Lib.hid hN
  obtain ⟨W0, hW0⟩ : ∃ V, w.alloc (seO n A k c ww cc) = V := ⟨_, rfl⟩
  have R0 : W0.heap[w.heap.size]? = some (seO n A k c ww cc) := by rw [← hW0]; exact a_new w _
  have BW : Below w.heap.size w W0 := by rw [← hW0]; exact (Below.refl _ _).alloc (Nat.le_refl _) _
  clear hn hN hb hw hc hf wu wn ws
  obtain ⟨r, hr⟩ : ∃ r, Sd.right ⟨n, l, ww, cc⟩ = r := ⟨_, rfl⟩
  have HR := Lib.hid hr
  by_cases hgood : r = true ∧ 0 ≤ now ∧ now ≤ 1099511627776
  · obtain ⟨rfl, n0, n1⟩ := hgood
    obtain ⟨h1, h2, h3, h4, h5⟩ := right_bd hr
    have h8 : k ≤ 8 := by rw [← Hn.out]; exact h4
    obtain ⟨n', L, ww', cc', tk, hp⟩ : ∃ n' L ww' cc' tk, Sd.acked ⟨n, l, ww, cc⟩ ack sack now = (⟨n', L, ww', cc'⟩, tk) := ⟨_, _, _, _, _, rfl⟩
    obtain ⟨rfl, hLe⟩ := acked_l hp
    obtain ⟨m, hLm⟩ : ∃ m, L.length = m := ⟨_, rfl⟩
    have hat := filter_at (stays n' ack sack) l
    have hsn := filter_snoc (stays n' ack sack) l
    rw [← hLe, hLm] at hat
    have HAT := Lib.hid hat
    have HSN := Lib.hid hsn
    have HP := Lib.hid hp
    have HLm := Lib.hid hLm
    have HLe := Lib.hid hLe
    have HA := Lib.hid (right_all hr).2.2
    clear hr hp hLm hLe hat hsn h5 h4
    have t0 : decide (now < 0) = false := decide_eq_false (by omega)
    have t1 : decide (1099511627776 < now) = false := decide_eq_false (by omega)
    go_enter Try.func5, Try.ntmps5
    go_wp2_with fail
    refine (small_any _).mono ?_
    rintro e w1 ⟨rfl, hb⟩
    have R0 := row_kept R0 hb (row_lt R0)
    have BW := BW.trans (hb.mono BW.size)
    have K0 := row_cells R0
    clear hb
    go_wp2_with fail
    refine (right_to _ n' ww cc A k c l Hn.out (HN.out.below BW) (by omega) HR.out).mono ?_
    rintro e w2 ⟨rfl, hb⟩
    have R0 := row_kept R0 hb (row_lt R0)
    have BW := BW.trans (hb.mono BW.size)
    clear hb K0
    have K0 := row_cells R0
    go_wp2_with fail
    refine (acked_to HR.out Hn.out (HN.out.below BW) ⟨n0, n1⟩ HP.out HLm.out).mono ?_
    rintro e w3 ⟨A1, c1, rfl, hO, hb⟩
    have R0 := a_lift (p := seO n' A1 m c1 ww' cc') (row_kept R0 hb (row_lt R0))
    have BW := (BW.trans (hb.mono BW.size)).alloc (BW.trans (hb.mono BW.size)).size (seO n' A1 m c1 ww' cc')
    have N1 : Fls (w3.alloc (seO n' A1 m c1 ww' cc')) A1 L := Nums.alloc hO.fls _
    have R8 := a_new w3 (seO n' A1 m c1 ww' cc')
    have N0 := HN.out.below BW
    have hm8 : m ≤ k := by
      rw [← HLm.out, ← Hn.out, HLe.out]
      exact List.length_filter_le _ _
    clear hb K0 hO
    have K0 := row_cells R0
    go_wp2
    go_loopw [12, 13] (fun q i wr => ∃ (j kk : Nat), j ≤ k ∧ i = .int .i64 j ∧ q = .int .i64 kk ∧ kk ≤ m ∧ Hid (((l.take j).filter (stays n' ack sack)).length = kk) ∧ Below (w3.alloc (seO n' A1 m c1 ww' cc')).heap.size (w3.alloc (seO n' A1 m c1 ww' cc')) wr) (fun _ i _ => k - (intOf i).toNat)
    case atStart => exact ⟨0, 0, Nat.zero_le _, rfl, rfl, Nat.zero_le _, (rfl : ((l.take 0).filter (stays n' ack sack)).length = 0), Below.refl _ _⟩
    case round =>
      obtain ⟨j, kk, hj, rfl, rfl, hkk, HK, hB⟩ := hrel
      have k0 := row_kept R0 hB (row_lt R0)
      have k8 := row_kept R8 hB (row_lt R8)
      clear K0 R0 R8
      have K0 := row_cells k0
      by_cases hjk : j < k
      · obtain ⟨b, off, rfl, hbb, c0, e1, e2, e3, e4, e5, e6⟩ := (Fls.below N0 hB).at (i := j) (by rw [Hn.out]; exact hjk)
        have hjl : j < l.length := by rw [Hn.out]; exact hjk
        have hat := HAT.out j hjl
        have hsn := HSN.out j hjl
        rw [HK.out] at hat hsn
        have hta := HA.out (l.getD j .zero) (by simp [List.getD, hjl])
        have N1' := Fls.below N1 hB
        generalize l.getD j .zero = a at c0 e1 e2 e3 e4 e5 e6 hat hsn hta
        obtain ⟨aq, au, av, az, ac, aa, at'⟩ := a
        dsimp only at c0 e1 e2 e3 e4 e5 e6 hta
        have q0 : (0 : Int) ≤ (j : Int) := by omega
        have q1 : (j : Int) < (k : Int) := by omega
        have KA := fun (o : Obj) => row_cells (a_lift (p := o) k0)
        have KB := fun (o : Obj) => row_cells (a_lift (p := o) k8)
        have KC := row_cells (a_new wr (flO aq au av az ac aa at'))
        have HFIN := Lib.hid (hB.alloc hB.size (flO aq au av az ac aa at'))
        have aq1 : 1 ≤ aq := hta.1
        have aq2 : aq ≤ n' - 1 := hta.2.1
        clear hta hB
        rcases cases7 n' ack sack aq au av az ac aa at' ⟨aq1, aq2, h1.2⟩ with ⟨hs, hc⟩ | ⟨hs, hc⟩
        · rw [hs] at hsn
          have HS := Lib.hid (show ((l.take (j + 1)).filter (stays n' ack sack)).length = kk by simpa using hsn)
          clear hat hsn hs N1' KB
          rcases hc with ⟨g0, g1, g2⟩ | ⟨g0, g1, g2, g3, g4, g5⟩
          all_goals
            go_wp2
            go_roundw
            case rel => exact ⟨j + 1, kk, by omega, by go_num, rfl, hkk, HS, HFIN.out⟩
            case measure => simp [intOf]; omega
        · rw [hs, if_pos rfl] at hsn
          obtain ⟨y1, y2⟩ := hat hs
          obtain ⟨b', off', rfl, hbb', f0, f1, f2, f3, f4, f5, f6⟩ := (show Fls _ A1 L from Nums.alloc N1' (flO aq au av az ac aa at')).at (i := kk) (by rw [HLm.out]; exact y1)
          rw [y2] at f0 f1 f2 f3 f4 f5 f6
          dsimp only at f0 f1 f2 f3 f4 f5 f6
          have HS := Lib.hid hsn
          have hne := fl_neq ⟨aq, au, av, az, ac, aa, at'⟩ ⟨aq, au, av, az, ac, aa, at'⟩
          rw [decide_eq_true rfl] at hne
          have g6 : (0 : Int) ≤ (kk : Int) := by omega
          have g7 : (kk : Int) < (m : Int) := by omega
          clear hat hsn hs N1' y2
          rcases hc with g0 | ⟨g0, g1⟩ | ⟨g0, g1, g2, g3⟩ | ⟨g0, g1, g2, g3, g4⟩ | ⟨g0, g1, g2, g3, g4, g5⟩
          all_goals
            go_wp2
            go_quiet (fail)
            go_wp2
            go_roundw
            case rel => exact ⟨j + 1, kk + 1, by omega, by go_num, by go_num, by omega, HS, below_drewN HFIN.out _⟩
            case measure => simp [intOf]; omega
      · obtain rfl : j = k := by omega
        have hkm : kk = m := by
          have := HK.out
          rw [List.take_of_length_le (by rw [Hn.out]; exact Nat.le_refl _), ← HLe.out, HLm.out] at this
          exact this.symm
        subst hkm
        have BW := BW.trans (hB.mono BW.size)
        have K8 := row_cells k8
        clear hB
        go_wp2
        go_ret
        exact ⟨rfl, BW⟩
  · have h3 : r = false ∨ (r = true ∧ now < 0) ∨ (r = true ∧ 0 ≤ now ∧ 1099511627776 < now) := by
      cases r
      · exact Or.inl rfl
      · simp at hgood ⊢; omega
    clear hgood hr
    rcases h3 with rfl | ⟨rfl, n0⟩ | ⟨rfl, n0, n1⟩
    all_goals
      go_enter Try.func5, Try.ntmps5
      go_wp2_with fail
      refine (small_any _).mono ?_
      rintro e w1 ⟨rfl, hb⟩
      have R0 := row_kept R0 hb (row_lt R0)
      have BW := BW.trans (hb.mono BW.size)
      have K0 := row_cells R0
      clear hb
      go_wp2_with fail
      refine (right_to _ n ww cc A k c l Hn.out (HN.out.below BW) (by omega) HR.out).mono ?_
      rintro e w2 ⟨rfl, hb⟩
      go_wp2_with fail
      go_ret
      exact ⟨rfl, BW.trans (hb.mono BW.size)⟩
theorem own : ownKnob Try.prog.godebug = none := by kernel_rfl
theorem laid : laidOutB Try.prog = true := by kernel_rfl

set_option maxRecDepth 100000 in
theorem lifted (os : Os) (started : os.Started) (H : Type) (enc : TypeId × Value → H) :
    ReturnsInHanded {} Try.checked os 5 .any (Rows.sendAcksSpec.pre6 enc Try.prog Try.f5 Rows.sendAcksRow.domain false) (Rows.sendAcksSpec.post enc Try.prog Try.f5 false true false false) := by
  refine law_lifted (C := Try.checked) (B := 4) own started (by kernel_rfl) Try.func5
    (ChangeSpec.witness6 (enc := enc) (C := Try.checked) false ⟨#[], #[.agg #[.int .i64 0, .slice none 0 0, .int .i64 0, .int .i64 0], .int .i64 0, .int .i64 0, .int .i64 0], []⟩ 8 (by kernel_rfl) (by kernel_rfl) (by kernel_rfl) (by kernel_rfl))
    rfl rfl Try.underlying4 laid (of_decide_eq_true (by kernel_rfl)) ?_ ?_
  · intro ds hl
    rw [Try.params5] at hl
    match ds, hl with
    | [d0, d1, d2, d3], _ => rfl
  · intro W base args ds ps hval hA hlt hz
    rw [Try.params5] at hA hval
    obtain ⟨v0, vs0, d0, ds0, p0, q0, hargs, rfl, rfl, h0, r0⟩ := trodAll_cons hA
    obtain ⟨v1, vs1, d1, ds1, p1, q1, rfl, rfl, rfl, h1, r1⟩ := trodAll_cons r0
    obtain ⟨v2, vs2, d2, ds2, p2, q2, rfl, rfl, rfl, h2, r2⟩ := trodAll_cons r1
    obtain ⟨v3, vs3, d3, ds3, p3, q3, rfl, rfl, rfl, h3, r3⟩ := trodAll_cons r2
    obtain ⟨rfl, rfl, rfl⟩ := trodAll_nil r3
    obtain rfl : args = #[v0, v1, v2, v3] := by cases args; simp_all
    obtain ⟨n0, A0, k0, c0, l0, ww0, cc0, rfl, hl0, hm0, hn0, hN0, hb0, hw0, hc0, hf0⟩ := open_send (hval 0 24 v0 rfl rfl) h0
    obtain ⟨a1, rfl, rfl, rfl, w1⟩ := open_int Try.underlying3 (hval 1 3 v1 rfl rfl) h1
    obtain ⟨a2, rfl, rfl, rfl, w2⟩ := open_int Try.underlying3 (hval 2 3 v2 rfl rfl) h2
    obtain ⟨a3, rfl, rfl, rfl, w3⟩ := open_int Try.underlying3 (hval 3 3 v3 rfl rfl) h3
    exact walk W n0 A0 k0 c0 l0 ww0 cc0 hl0 hm0 hn0 hN0 hb0 hw0 hc0 hf0 a1 w1 a2 w2 a3 w3

theorem over : Rows.sendAcksRow.holds Try.pinned (OpenSpec.ofChange Rows.sendAcksSpec) :=
  OpenClaim.holds_of_wide 5 Try.f5 rfl rfl rfl rfl rfl rfl rfl ⟨rfl, rfl, rfl, rfl, rfl⟩ rfl rfl rfl rfl rfl (by kernel_rfl) Try.func5 (by kernel_rfl)
    (of_decide_eq_true (by kernel_rfl)) (by unfold Func.isWrapper; first | (rw [if_pos (by decide +kernel)]; kernel_rfl) | (rw [if_neg (by decide +kernel)]; exact ⟨rfl, rfl⟩))
    (fun os started H enc _ => lifted os started H enc)

theorem proved : Rows.SendAcksSaid := over
#print axioms proved
end Go.Proofs.Ytcppblgoojjpgaa.sendAcks
