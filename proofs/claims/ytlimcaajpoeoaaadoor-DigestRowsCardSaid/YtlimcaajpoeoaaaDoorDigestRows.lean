/- DigestRows holds for any parts: what is summed is all their bytes, in order. The constants read as the program lays them (the card ties them). No other condition. -/
import Derived.Test.YtlimcaajpoeoaaaDoorDigLaw
namespace Go.Proofs.YtlimcaajpoeoaaaDoor.digestRows
open Go.ChangeShapes Go.WideShapes Go.ChangeAt Go.RowKit

set_option maxRecDepth 100000 in
set_option maxHeartbeats 1000000 in
theorem walk (w : World) (hL : laidMetH Tryd.prog Rows.digestRowsRow.laid w)
    (A : Option Addr) (n cap : Nat) (R : Nat → Option Addr) (C : Nat → Nat) (Z : Nat → List Int) (hl : n ≤ cap) (hm : cap ≤ maxLen) (hP : Mat .u8 w A n R C Z) :
    Calls Tryd.prog 5 #[.slice A n cap] w fun e w' => e = .returned (.bool true) ∧ Below w.heap.size w w' := by
  have HT := Lib.hid (kt_of_laid hL)
  have HP := Lib.hid (parts_of_mat hP)
  have HW := Lib.hid (flat_wf (mat_wf hP))
  have hnp := ptsOf_len n R C Z
  generalize ptsOf n R C Z = ps at HP HW hnp
  have Hnp := Lib.hid hnp
  obtain ⟨i0, hi, hz0, hz1, hz2⟩ := info_parts infoB
  have HI := Lib.hid (And.intro hi (And.intro hz0 (And.intro hz1 hz2)))
  unfold maxLen at hm
  clear hL hP hnp hi hz0 hz1 hz2
  go_enter Tryd.func5, Tryd.ntmps5
  go_wp2_with (go_at_call 6; refine (small_any _ HT.out).mono ?_; rintro e w1 ⟨rfl, hB1⟩)
  go_loopw [4, 5] (fun v i wr => ∃ (j : Nat) (A' : Option Addr) (c' m' : Nat), j ≤ n ∧ j ≤ 20 ∧ i = .int .i64 j ∧ v = .slice A' m' c' ∧ (flat (ps.take j)).length = m' ∧ OwnN .u8 5 w1.heap.size wr A' c' (flat (ps.take j)) ∧ m' ≤ 100 * j ∧ Below w.heap.size w wr) (fun _ i _ => 20 - (intOf i).toNat)
  case atStart => exact ⟨0, none, 0, 0, Nat.zero_le _, Nat.zero_le _, rfl, rfl, rfl, OwnN.nil (Nat.le_refl _), Nat.zero_le _, hB1⟩
  case round =>
    obtain ⟨j, A', c', m', hjn, hj20, rfl, rfl, hlen, hO, hm', hB⟩ := hrel
    have HO := Lib.hid hO
    have Hlen := Lib.hid hlen
    clear hO hlen
    have q0 : (0 : Int) ≤ (j : Int) := by omega
    by_cases hlt : j < n ∧ j < 20
    · obtain ⟨h1, h2⟩ := hlt
      have q1 : (j : Int) < (n : Int) := by omega
      have q2 : (j : Int) < 20 := by omega
      obtain ⟨p, hp⟩ : ∃ p, ps[j]? = some p := ⟨_, List.getElem?_eq_getElem (by rw [Hnp.out]; exact h1)⟩
      rcases (HP.out.below hB) with h0 | ⟨b, off, rfl, hb, hc⟩
      · rw [h0] at hp; simp at hp
      obtain ⟨g1, g2, g3, g4⟩ := hc j p hp
      have Hs := Lib.hid (flat_snoc ps j p hp)
      have Hg2 := Lib.hid g2
      clear hc g2 hp
      unfold maxLen at g4
      obtain ⟨pA, pc, pb⟩ := p
      simp only at g1 g3 g4 Hs Hg2
      obtain ⟨m, hm⟩ : ∃ m, pb.length = m := ⟨_, rfl⟩
      rw [hm] at g1 g3
      have Hm := Lib.hid hm
      clear hm
      by_cases h100 : 100 < m
      · go_wp2
        go_ret
        exact ⟨rfl, hB⟩
      · have hlen0 : (flat (ps.take j)).length + m < 17592186044415 := by rw [Hlen.out]; omega
        have HL0 := Lib.hid hlen0
        clear hlen0
        go_wp2_with (first
          | (at_builtin; refine wpList_append_rowA rfl _ _ 22 rfl i0 1 Tryd.underlying22 HI.out.1 HI.out.2.1 HI.out.2.2.1 HI.out.2.2.2 (by decide) m' Hlen.out rfl HO.out pA m _ pb rfl Hm.out Hg2.out HL0.out w.heap.size w hB1.size hB ?_; intro A2 c2 w2 hO2 hB2)
          )
        go_roundw
        case rel => exact ⟨j + 1, A2, c2, m' + m, by omega, by omega, by go_num, rfl, by rw [Hs.out, List.length_append, Hlen.out, Hm.out], by rw [Hs.out]; exact hO2, by omega, hB2⟩
        case measure => simp [intOf]; omega
    · by_cases hbig : 20 < n
      · have hj : j = 20 := by omega
        subst hj
        go_wp2
        go_ret
        exact ⟨rfl, hB⟩
      · obtain rfl : j = n := by omega
        have e : ps.take j = ps := List.take_of_length_le (by rw [Hnp.out]; exact Nat.le_refl _)
        have hlen := Hlen.out
        have hO := HO.out
        rw [e] at hlen hO
        have Hlen := Lib.hid (show (flat ps).length ≤ 1000000 by omega)
        have HF := Lib.hid hlen
        have HO := Lib.hid hO
        obtain ⟨l, hl⟩ : ∃ l, flat ps = l := ⟨_, rfl⟩
        obtain ⟨r, hr⟩ : ∃ r, Sha.sha (flat ps) = r := ⟨_, rfl⟩
        have Hr := Lib.hid hr
        have hr32 : r.length = 32 := by rw [← hr]; exact sha_len _
        have E1 : ∀ W : World, (Op.equalIn 10000 b32T (.agg (nrow .u8 r).toArray) (.agg (nrow .u8 r).toArray)).run Tryd.prog W = .ok true W := fun W => by rw [eql_b32 W r r hr32 hr32, decide_eq_true rfl]
        have b20 : (j : Int) ≤ 20 := by omega
        have b10 : m' ≤ c' ∧ c' ≤ maxLen := by have := hO.len; rw [hlen] at this; exact this
        clear e hl hr hlen hO hr32 hlt
        have d20 : decide ((20 : Int) < (j : Int)) = false := decide_eq_false (by omega)
        go_wp2_with fail
        refine (sum_to wr A j cap ps (flat ps) r rfl Hr.out Hnp.out (HP.out.below hB) Hlen.out (by omega) HW.out (HT.out.keep hB HT.out.2)).mono ?_
        rintro e w2 ⟨rfl, hB2⟩
        have N2 := HO.out.nums.below hB2
        have B2 := hB.trans (hB2.mono hB.size)
        have P2 := parts_one (t := 22) (cap := c') (g := w2.heap.size) rfl N2 HF.out b10.1 b10.2
        have B3 := B2.alloc B2.size (.cells #[.slice A' m' c'] 22)
        have K3 := HT.out.keep B3 HT.out.2
        clear hB2 N2 B2
        go_wp2_with fail
        refine (sum_to _ _ 1 1 _ (flat ps) r (by simp [flat]) Hr.out rfl P2 Hlen.out (by decide) HW.out K3).mono ?_
        rintro e w3 ⟨rfl, hB3⟩
        have B4 := B3.trans (hB3.mono B3.size)
        clear hB3 K3 P2 B3
        go_wp2
        go_ret
        exact ⟨rfl, B4⟩

theorem own : ownKnob Tryd.prog.godebug = none := by kernel_rfl
theorem laid : laidOutB Tryd.prog = true := by kernel_rfl

noncomputable def laidWorld (os : Os) : World := World.doorLaid Tryd.prog 400 os
theorem laid_met (os : Os) : laidMet Tryd.prog Rows.digestRowsRow.laid ((laidWorld os).forCall (fun _ _ => 0) ⟨#[], #[.slice none 0 0], []⟩).memory :=
  laidMet_of_run' 8 (by kernel_rfl) (by kernel_rfl)
theorem reads (os : Os) {H : Type} (enc : TypeId × Value → H) : ∃ places, DataW.whole enc Tryd.prog ((laidWorld os).forCall (fun _ _ => 0) ⟨#[], #[.slice none 0 0], []⟩).memory Tryd.f5.params.toList Rows.digestRowsSpec.vars false #[Value.slice none 0 0].toList 8 = some ([.nil], [], places) :=
  ⟨[], by kernel_rfl⟩

set_option maxRecDepth 100000 in
theorem lifted (os : Os) (started : os.Started) (H : Type) (enc : TypeId × Value → H) (F : Stop.Interp) :
    ReturnsInHanded {} Tryd.checked os 5 .any ((OpenSpec.ofChange Rows.digestRowsSpec).preRow enc Tryd.prog Tryd.f5 Rows.digestRowsRow.domain false Rows.digestRowsRow.laid) (((OpenSpec.ofChange Rows.digestRowsSpec).at F).post enc Tryd.prog Tryd.f5 false true false false) := by
  obtain ⟨places, hx⟩ := reads os enc
  refine law_lifted_laid (C := Tryd.checked) (s := Rows.digestRowsSpec) (B := 4) own started (by kernel_rfl) Tryd.func5
    (witness_row_at (enc := enc) (C := Tryd.checked) false (laidWorld os) #[.slice none 0 0] rfl (by kernel_rfl) (by kernel_rfl) (by kernel_rfl)
      (OpenSpec.preRow_of_cond 8 hx (by kernel_rfl) (fun k hk => by cases hk) (by kernel_rfl) (laid_met os)))
    rfl rfl Tryd.underlying4 laid (of_decide_eq_true (by kernel_rfl)) ?_ ?_
  · intro ds hl
    rw [Tryd.params5] at hl
    match ds, hl with
    | [d0], _ => rfl
  · intro W base args ds ps hval hA hlt hz hL
    rw [Tryd.params5] at hA hval
    obtain ⟨v0, vs0, d0, ds0, p0, q0, hargs, rfl, rfl, h0, r0⟩ := trodAll_cons hA
    obtain ⟨rfl, rfl, rfl⟩ := trodAll_nil r0
    obtain rfl : args = #[v0] := by cases args; simp_all
    obtain ⟨A0, n0, cap0, R0, C0, Z0, rfl, hl0, hm0, hP0⟩ := open_mat Tryd.underlying29 Tryd.underlying22 Tryd.underlying5 (by kernel_rfl) (by kernel_rfl) (hval 0 29 v0 rfl rfl) h0
    exact walk W hL A0 n0 cap0 R0 C0 Z0 hl0 hm0 hP0

theorem said : Rows.DigestRowsSaid :=
  OpenClaim.holds_of_cond 5 Tryd.f5 rfl rfl rfl rfl rfl rfl rfl ⟨rfl, rfl, rfl, rfl, rfl⟩ rfl rfl rfl rfl rfl (by kernel_rfl) Tryd.func5 (by kernel_rfl)
    (of_decide_eq_true (by kernel_rfl)) (by unfold Func.isWrapper; first | (rw [if_pos (by decide +kernel)]; kernel_rfl) | (rw [if_neg (by decide +kernel)]; exact ⟨rfl, rfl⟩))
    (fun os started H enc _ F => by rw [OpenClaim.pre_eq_preRow]; exact lifted os started H enc F)
theorem plain (f : FuncId) (fn : Func) (hf : Tryd.pinned.checked.prog.funcNamed "nightjar/nightjarlaw02.DigestRows" = some f) (hfn : Tryd.pinned.checked.prog.funcs[f]? = some fn) :
    false = Tryd.pinned.checked.prog.looks [] ∧ ∀ (j : Nat) t, fn.params[j]? = some t → Tryd.pinned.checked.prog.wantsStandIn t = false := by
  obtain rfl : f = 5 := Option.some.inj ((show Tryd.prog.funcNamed "nightjar/nightjarlaw02.DigestRows" = some 5 by kernel_rfl).symm.trans hf) |>.symm
  obtain rfl : fn = Tryd.f5 := (Option.some.inj (Tryd.func5.symm.trans hfn)).symm
  refine ⟨by kernel_rfl, fun j t ht => ?_⟩
  have hm : t ∈ Tryd.f5.params.toList := by simpa using Array.mem_of_getElem? ht
  have hall : (Tryd.f5.params.toList.all fun u => !Tryd.prog.wantsStandIn u) = true := by kernel_rfl
  exact (show Tryd.prog.wantsStandIn t = false by simpa using List.all_eq_true.1 hall t hm)

theorem proved : Rows.DigestRowsCardSaid :=
  Claim7.holds_tied_plain_at .later [] _ _ _ _ said (fun _ h => by cases h) (by kernel_rfl) (fun _ h => by cases h) digestRows_row_tie rfl ⟨rfl, rfl⟩ (by kernel_rfl) rfl plain (by kernel_rfl)
#print axioms proved
end Go.Proofs.YtlimcaajpoeoaaaDoor.digestRows
