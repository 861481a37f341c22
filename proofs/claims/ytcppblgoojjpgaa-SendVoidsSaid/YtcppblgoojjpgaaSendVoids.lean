/- SendVoids holds for any right Send, any user: notes of a user say nothing then, all else stays, and a second time changes nothing. No condition. -/
import Derived.Test.YtcppblgoojjpgaaOpen11
import Derived.Test.YtcppblgoojjpgaaLaw
import Derived.Deep.RegionHeld3
namespace Go.Proofs.Ytcppblgoojjpgaa.sendVoids
open Go.ChangeShapes Go.WideShapes Go.ChangeAt Go.RowKit Go.Shelf
attribute [-go_sem] run_eql_struct run_neq_struct

theorem void_twice (user : Int) (f : Fl) : Fl.void user (Fl.void user f) = Fl.void user f := by
  unfold Fl.void
  by_cases h : f.u = user
  · simp only [h, if_true]
    split <;> rfl
  · rw [if_neg h, if_neg h]
theorem voids_twice (user : Int) (l : List Fl) : (l.map (Fl.void user)).map (Fl.void user) = l.map (Fl.void user) := by
  rw [List.map_map]
  exact List.map_congr_left fun f _ => void_twice user f

set_option maxRecDepth 100000 in
set_option maxHeartbeats 4000000 in
theorem walk (w : World) (n : Int) (A : Option Addr) (k c : Nat) (l : List Fl) (ww cc : Int) (hl : k ≤ c) (hm : c ≤ maxLen) (hn : l.length = k) (hN : Fls w A l) (hb : -9223372036854775808 ≤ n ∧ n ≤ 9223372036854775807) (hw : -9223372036854775808 ≤ ww ∧ ww ≤ 9223372036854775807) (hc : -9223372036854775808 ≤ cc ∧ cc ≤ 9223372036854775807) (hf : ∀ f ∈ l, f.wf) (user : Int) (wu : (Lit.int .i64 user).wf = true) :
    Calls Try.prog 7 #[.agg #[.int .i64 n, .slice A k c, .int .i64 ww, .int .i64 cc], .int .i64 user] w fun e w' => e = .returned (.bool true) ∧ Below w.heap.size w w' := by
  unfold maxLen at hm
  have z0 := zero_send
  have z1 := zero_fl
  have Hn := Lib.hid hn
  have HN := Lib.hid hN
  obtain ⟨W0, hW0⟩ : ∃ V, w.alloc (seO n A k c ww cc) = V := ⟨_, rfl⟩
  have R0 : W0.heap[w.heap.size]? = some (seO n A k c ww cc) := by rw [← hW0]; exact a_new w _
  have BW : Below w.heap.size w W0 := by rw [← hW0]; exact (Below.refl _ _).alloc (Nat.le_refl _) _
  clear hn hN hb hw hc hf
  cases hr : Sd.right ⟨n, l, ww, cc⟩
  · have HR := Lib.hid hr
    clear hr
    go_enter Try.func7, Try.ntmps7
    go_wp2_with fail
    refine (small_any _).mono ?_
    rintro e w1 ⟨rfl, hb⟩
    have R0 := row_kept R0 hb (row_lt R0)
    have BW := BW.trans (hb.mono BW.size)
    have K0 := row_cells R0
    clear hb
    go_wp2_with fail
    refine (right_to _ n ww cc A k c l Hn.out (HN.out.below BW) (by omega) HR.out).mono ?_
    rintro e w2 ⟨rfl, hb⟩
    go_wp2_with fail
    go_ret
    exact ⟨rfl, BW.trans (hb.mono BW.size)⟩
  · obtain ⟨h1, h2, h3, h4, h5⟩ := right_bd hr
    have HR := Lib.hid hr
    have h8 : k ≤ 8 := by rw [← Hn.out]; exact h4
    clear hr h5 h4
    obtain ⟨L, hL⟩ : ∃ L, l.map (Fl.void user) = L := ⟨_, rfl⟩
    have HL := Lib.hid hL
    have HLL := Lib.hid (show L.map (Fl.void user) = L by rw [← hL]; exact voids_twice user l)
    have HLn := Lib.hid (show L.length = k by rw [← hL, List.length_map, Hn.out])
    have HLg := Lib.hid (fun (j : Nat) (hj : j < k) => show L.getD j .zero = Fl.void user (l.getD j .zero) by
      rw [← hL]
      have ht2 : j < l.length := by rw [Hn.out]; omega
      simp [List.getD, ht2])
    clear hL
    go_enter Try.func7, Try.ntmps7
    go_wp2_with fail
    refine (small_any _).mono ?_
    rintro e w1 ⟨rfl, hb⟩
    have R0 := row_kept R0 hb (row_lt R0)
    have BW := BW.trans (hb.mono BW.size)
    have K0 := row_cells R0
    clear hb
    go_wp2_with fail
    refine (right_to _ n ww cc A k c l Hn.out (HN.out.below BW) (by omega) HR.out).mono ?_
    rintro e w2 ⟨rfl, hb⟩
    have R0 := row_kept R0 hb (row_lt R0)
    have BW := BW.trans (hb.mono BW.size)
    clear hb K0
    have K0 := row_cells R0
    go_wp2_with fail
    refine (void_any _ n ww cc A k c l Hn.out (HN.out.below BW) (by omega) user HL.out).mono ?_
    rintro e w3 ⟨A1, c1, rfl, hO, hb⟩
    have R0 := a_lift (p := seO n A1 k c1 ww cc) (row_kept R0 hb (row_lt R0))
    have BW := (BW.trans (hb.mono BW.size)).alloc (BW.trans (hb.mono BW.size)).size (seO n A1 k c1 ww cc)
    have N1 : Fls (w3.alloc (seO n A1 k c1 ww cc)) A1 L := Nums.alloc hO.fls (seO n A1 k c1 ww cc)
    have R1 := a_new w3 (seO n A1 k c1 ww cc)
    have N0 := HN.out.below BW
    clear hb K0 hO
    have K1 := row_cells R1
    have K0 := row_cells R0
    go_wp2
    go_loopw [7] (fun i wr => ∃ j : Nat, j ≤ k ∧ i = .int .i64 j ∧ Below (w3.alloc (seO n A1 k c1 ww cc)).heap.size (w3.alloc (seO n A1 k c1 ww cc)) wr) (fun i _ => k - (intOf i).toNat)
    case atStart => exact ⟨0, Nat.zero_le _, rfl, Below.refl _ _⟩
    case round =>
      obtain ⟨j, hj, rfl, hB⟩ := hrel
      obtain ⟨V, hV⟩ : ∃ V, w3.alloc (seO n A1 k c1 ww cc) = V := ⟨_, rfl⟩
      rw [hV] at R0 R1 N0 N1 BW hB
      clear K0 K1
      have k0 := row_kept R0 hB (row_lt R0)
      have k1 := row_kept R1 hB (row_lt R1)
      have K0 := row_cells k0
      have K1 := row_cells k1
      by_cases hjk : j < k
      · obtain ⟨b, off, rfl, hbb, c0, d1, d2, d3, d4, d5, d6⟩ := (Fls.below N0 hB).at (i := j) (by rw [Hn.out]; exact hjk)
        have hg := HLg.out j hjk
        have N1' := Fls.below N1 hB
        generalize l.getD j .zero = f at c0 d1 d2 d3 d4 d5 d6 hg
        obtain ⟨fq, fu, fv, fs, fc, fa, ft⟩ := f
        dsimp only at c0 d1 d2 d3 d4 d5 d6
        have q0 : (0 : Int) ≤ (j : Int) := by omega
        have q1 : (j : Int) < (k : Int) := by omega
        rw [← hV] at hB
        by_cases hu : fu = user
        · subst hu
          unfold Fl.void at hg
          rw [if_pos rfl] at hg
          dsimp only at hg
          obtain ⟨b', off', rfl, hbb', e0, e1, e2, e3, e4, e5, e6⟩ := (show Fls _ A1 L from Nums.alloc N1' (flO fq 0 0 0 0 fa ft)).at (i := j) (by rw [HLn.out]; exact hjk)
          rw [hg] at e0 e1 e2 e3 e4 e5 e6
          dsimp only at e0 e1 e2 e3 e4 e5 e6
          clear hg N1'
          have hne := fl_neq ⟨fq, 0, 0, 0, 0, fa, ft⟩ ⟨fq, 0, 0, 0, 0, fa, ft⟩
          rw [decide_eq_true rfl] at hne
          have KA := fun (o : Obj) => row_cells (a_lift (p := o) k0)
          have KB := fun (o : Obj) => row_cells (a_lift (p := o) k1)
          have KC := row_cells (a_new wr (flO fq 0 0 0 0 fa ft))
          have HFIN := Lib.hid (below_drewN (hB.alloc hB.size (flO fq 0 0 0 0 fa ft)))
          clear hV hB
          go_wp2
          go_quiet (fail)
          go_wp2
          go_roundw
          case rel => exact ⟨j + 1, by omega, by go_num, HFIN.out _⟩
          case measure => simp [intOf]; omega
        · unfold Fl.void at hg
          rw [if_neg hu] at hg
          obtain ⟨b', off', rfl, hbb', e0, e1, e2, e3, e4, e5, e6⟩ := (show Fls _ A1 L from Nums.alloc N1' (flO fq fu fv fs fc fa ft)).at (i := j) (by rw [HLn.out]; exact hjk)
          rw [hg] at e0 e1 e2 e3 e4 e5 e6
          dsimp only at e0 e1 e2 e3 e4 e5 e6
          clear hg N1'
          have hne := fl_neq ⟨fq, fu, fv, fs, fc, fa, ft⟩ ⟨fq, fu, fv, fs, fc, fa, ft⟩
          rw [decide_eq_true rfl] at hne
          have hu' : (fu == user) = false := by simpa using hu
          have KA := fun (o : Obj) => row_cells (a_lift (p := o) k0)
          have KB := fun (o : Obj) => row_cells (a_lift (p := o) k1)
          have KC := row_cells (a_new wr (flO fq fu fv fs fc fa ft))
          have HFIN := Lib.hid (below_drewN (hB.alloc hB.size (flO fq fu fv fs fc fa ft)))
          clear hV hB
          go_wp2
          go_quiet (fail)
          go_wp2
          go_roundw
          case rel => exact ⟨j + 1, by omega, by go_num, HFIN.out _⟩
          case measure => simp [intOf]; omega
      · obtain rfl : j = k := by omega
        have N1' := Fls.below N1 hB
        have BW := BW.trans (hB.mono BW.size)
        clear N1 R0 R1
        have q0 : ¬ (j : Int) < (j : Int) := by omega
        have P := Lib.hid (show j ≤ 1000000 by omega)
        have B0 : Below wr.heap.size wr wr.drew := below_drewN (Below.refl _ _) 1
        clear hB hV
        go_wp2
        clear K0 K1
        go_region_held3 (fun W => SV wr w3.heap.size w.heap.size (.int .i64 n) (.slice A1 j c1) (.int .i64 ww) (.int .i64 cc) (.int .i64 n) (.slice A j c) (.int .i64 ww) (.int .i64 cc) W)
          (first | (with_reducible exact SV.mk k1 k0 B0) | (with_reducible exact SV.call k1 k0 (by assumption) hb))
          (first
            | (go_at_call 26; with_reducible refine (void_any _ n ww cc A1 j c1 L HLn.out (N1'.below (SV.low (by assumption))) P.out user HLL.out).mono ?_; rintro e w9 ⟨A9, c9, rfl, hO, hb⟩)
            | (go_at_call 14; with_reducible refine (send_same _ n ww cc A9 j c9 L n ww cc A1 j c1 L HLn.out HLn.out hO.fls (N1'.below (SV.low (by assumption))) P.out (r := true) (by simp)).mono ?_; rintro e w10 ⟨rfl, hb⟩))
        all_goals
          have HB := SV.low (W0 := wr) (by assumption)
          have HBW := Lib.hid (BW.trans (HB.mono BW.size))
          go_wp2
          go_ret
          exact ⟨rfl, HBW.out⟩
theorem own : ownKnob Try.prog.godebug = none := by kernel_rfl
theorem laid : laidOutB Try.prog = true := by kernel_rfl

set_option maxRecDepth 100000 in
theorem lifted (os : Os) (started : os.Started) (H : Type) (enc : TypeId × Value → H) :
    ReturnsInHanded {} Try.checked os 7 .any (Rows.sendVoidsSpec.pre6 enc Try.prog Try.f7 Rows.sendVoidsRow.domain false) (Rows.sendVoidsSpec.post enc Try.prog Try.f7 false true false false) := by
  refine law_lifted (C := Try.checked) (B := 4) own started (by kernel_rfl) Try.func7
    (ChangeSpec.witness6 (enc := enc) (C := Try.checked) false ⟨#[], #[.agg #[.int .i64 0, .slice none 0 0, .int .i64 0, .int .i64 0], .int .i64 0], []⟩ 8 (by kernel_rfl) (by kernel_rfl) (by kernel_rfl) (by kernel_rfl))
    rfl rfl Try.underlying4 laid (of_decide_eq_true (by kernel_rfl)) ?_ ?_
  · intro ds hl
    rw [Try.params7] at hl
    match ds, hl with
    | [d0, d1], _ => rfl
  · intro W base args ds ps hval hA hlt hz
    rw [Try.params7] at hA hval
    obtain ⟨v0, vs0, d0, ds0, p0, q0, hargs, rfl, rfl, h0, r0⟩ := trodAll_cons hA
    obtain ⟨v1, vs1, d1, ds1, p1, q1, rfl, rfl, rfl, h1, r1⟩ := trodAll_cons r0
    obtain ⟨rfl, rfl, rfl⟩ := trodAll_nil r1
    obtain rfl : args = #[v0, v1] := by cases args; simp_all
    obtain ⟨n0, A0, k0, c0, l0, ww0, cc0, rfl, hl0, hm0, hn0, hN0, hb0, hw0, hc0, hf0⟩ := open_send (hval 0 24 v0 rfl rfl) h0
    obtain ⟨a1, rfl, rfl, rfl, w1⟩ := open_int Try.underlying3 (hval 1 3 v1 rfl rfl) h1
    exact walk W n0 A0 k0 c0 l0 ww0 cc0 hl0 hm0 hn0 hN0 hb0 hw0 hc0 hf0 a1 w1

theorem over : Rows.sendVoidsRow.holds Try.pinned (OpenSpec.ofChange Rows.sendVoidsSpec) :=
  OpenClaim.holds_of_wide 7 Try.f7 rfl rfl rfl rfl rfl rfl rfl ⟨rfl, rfl, rfl, rfl, rfl⟩ rfl rfl rfl rfl rfl (by kernel_rfl) Try.func7 (by kernel_rfl)
    (of_decide_eq_true (by kernel_rfl)) (by unfold Func.isWrapper; first | (rw [if_pos (by decide +kernel)]; kernel_rfl) | (rw [if_neg (by decide +kernel)]; exact ⟨rfl, rfl⟩))
    (fun os started H enc _ => lifted os started H enc)

theorem proved : Rows.SendVoidsSaid := over
#print axioms proved
end Go.Proofs.Ytcppblgoojjpgaa.sendVoids
