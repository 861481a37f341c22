/- MacRows holds for any key and any parts: of many parts all bytes count, in order, and neither key nor parts change. The constants read as the program lays them (the card ties them). No other condition. -/
import Derived.Test.YtmdlhcelibciiaaDoorMacSmall
import Derived.Test.YtmdlhcelibciiaaDoorDigLaw
import Derived.Deep.RegionHeld
namespace Go.Proofs.YtmdlhcelibciiaaDoor.macRows
open Go.ChangeShapes Go.WideShapes Go.ChangeAt Go.RowKit

theorem flat_append (a b : List Pt) : flat (a ++ b) = flat a ++ flat b := by
  induction a with
  | nil => rfl
  | cons p r ih => simp only [List.cons_append, flat, ih, List.append_assoc]
theorem flat_take_le (k : Nat) (ps : List Pt) : (flat (ps.take k)).length ≤ (flat ps).length := by
  have : flat ps = flat (ps.take k) ++ flat (ps.drop k) := by rw [← flat_append, List.take_append_drop]
  rw [this, List.length_append]; omega
abbrev CV (A : Option Addr) (n c : Nat) (T : ByteArray) (W : World) : Prop := (convert 22 9 (.slice A n c)).run Tryd.prog W = .ok (.string T) W
set_option maxRecDepth 100000 in
set_option maxHeartbeats 4000000 in
theorem walk (w : World) (hL : laidMetH Tryd.prog Rows.macRowsRow.laid w)
    (B : Option Addr) (kn kcap : Nat) (zs : List Int) (hlk : kn ≤ kcap) (hmk : kcap ≤ maxLen) (hnk : zs.length = kn) (hNk : Nums .u8 w B zs) (hwk : ∀ z ∈ zs, (Lit.int .u8 z).wf = true)
    (A : Option Addr) (n cap : Nat) (R : Nat → Option Addr) (C : Nat → Nat) (Z : Nat → List Int) (hl : n ≤ cap) (hm : cap ≤ maxLen) (hP : Mat .u8 w A n R C Z) :
    Calls Tryd.prog 7 #[.slice B kn kcap, .slice A n cap] w fun e w' => e = .returned (.bool true) ∧ Below w.heap.size w w' := by
  have HT := Lib.hid (kt_of_laid hL)
  have HP := Lib.hid (parts_of_mat hP)
  have HW := Lib.hid (flat_wf (mat_wf hP))
  have HNk := Lib.hid hNk
  have Hnk := Lib.hid hnk
  have HWk := Lib.hid (show ∀ z ∈ zs, 0 ≤ z ∧ z < 256 from fun z hz => byte_wf (hwk z hz))
  have HCk := Lib.hid (And.intro hlk hmk)
  have hnp := ptsOf_len n R C Z
  generalize ptsOf n R C Z = ps at HP HW hnp
  have Hnp := Lib.hid hnp
  have HCp := Lib.hid (And.intro hl hm)
  obtain ⟨i0, hi, hz0, hz1, hz2⟩ := info_parts infoB
  have HI := Lib.hid (And.intro hi (And.intro hz0 (And.intro hz1 hz2)))
  clear hL hP hnp hi hz0 hz1 hz2 hNk hnk hwk hlk hmk hl hm
  by_cases h3 : 300 < kn ∨ 20 < n
  · have hcase : 300 < kn ∨ (kn ≤ 300 ∧ 20 < n) := by omega
    clear h3
    rcases hcase with h | ⟨h0, h⟩
    all_goals
      (try have d1 : decide ((300 : Int) < (kn : Int)) = false := decide_eq_false (by omega))
      go_enter Tryd.func7, Tryd.ntmps7
      go_wp2_with (go_at_call 8; refine (small_any _ HT.out).mono ?_; rintro e w1 ⟨rfl, hB1⟩)
      go_ret
      exact ⟨rfl, hB1⟩
  have h1 : kn ≤ 300 := by omega
  have h2 : n ≤ 20 := by omega
  have d1 : decide ((300 : Int) < (kn : Int)) = false := decide_eq_false (by omega)
  have d2 : decide ((20 : Int) < (n : Int)) = false := decide_eq_false (by omega)
  have z0 := zero_b32'
  clear h3
  go_enter Tryd.func7, Tryd.ntmps7
  go_wp2_with (go_at_call 8; refine (small_any _ HT.out).mono ?_; rintro e w1 ⟨rfl, hB1⟩)
  go_loopw [6, 7] (fun v i wr => ∃ (j : Nat) (A' : Option Addr) (c' m' : Nat), j ≤ n ∧ i = .int .i64 j ∧ v = .slice A' m' c' ∧ (flat (ps.take j)).length = m' ∧ OwnN .u8 5 w1.heap.size wr A' c' (flat (ps.take j)) ∧ m' ≤ 100 * j ∧ Below w.heap.size w wr) (fun _ i _ => n - (intOf i).toNat)
  case atStart => exact ⟨0, none, 0, 0, Nat.zero_le _, rfl, rfl, rfl, OwnN.nil (Nat.le_refl _), Nat.zero_le _, hB1⟩
  case round =>
    obtain ⟨j, A2x, c', m', hjn, rfl, rfl, hlen, hO, hm', hB⟩ := hrel
    have HO := Lib.hid hO
    have Hlen := Lib.hid hlen
    clear hO hlen
    have q0 : (0 : Int) ≤ (j : Int) := by omega
    by_cases hlt : j < n
    · have q1 : (j : Int) < (n : Int) := by omega
      obtain ⟨p, hp⟩ : ∃ p, ps[j]? = some p := ⟨_, List.getElem?_eq_getElem (by rw [Hnp.out]; exact hlt)⟩
      rcases (HP.out.below hB) with h0 | ⟨b, off, rfl, hb, hc⟩
      · rw [h0] at hp; simp at hp
      obtain ⟨g1, g2, g3, g4⟩ := hc j p hp
      have Hs := Lib.hid (flat_snoc ps j p hp)
      have Hg2 := Lib.hid g2
      clear hc g2 hp
      unfold maxLen at g4
      obtain ⟨pA, pc, pb⟩ := p
      simp only at g1 g3 g4 Hs Hg2
      obtain ⟨m, hm⟩ : ∃ m, pb.length = m := ⟨_, rfl⟩
      rw [hm] at g1 g3
      have Hm := Lib.hid hm
      clear hm
      by_cases h100 : 100 < m
      · go_wp2
        go_ret
        exact ⟨rfl, hB⟩
      · have hlen0 : (flat (ps.take j)).length + m < 17592186044415 := by rw [Hlen.out]; omega
        have HL0 := Lib.hid hlen0
        clear hlen0
        go_wp2_with (first
          | (at_builtin; refine wpList_append_rowA rfl _ _ 22 rfl i0 1 Tryd.underlying22 HI.out.1 HI.out.2.1 HI.out.2.2.1 HI.out.2.2.2 (by decide) m' Hlen.out rfl HO.out pA m _ pb rfl Hm.out Hg2.out HL0.out w.heap.size w hB1.size hB ?_; intro A2 c2 w2 hO2 hB2)
          )
        go_roundw
        case rel => exact ⟨j + 1, A2, c2, m' + m, by omega, by go_num, rfl, by rw [Hs.out, List.length_append, Hlen.out, Hm.out], by rw [Hs.out]; exact hO2, by omega, hB2⟩
        case measure => simp [intOf]; omega
    · obtain rfl : j = n := by omega
      have e : ps.take j = ps := List.take_of_length_le (by rw [Hnp.out]; exact Nat.le_refl _)
      have hlen := Hlen.out
      have hO := HO.out
      rw [e] at hlen hO
      have hfl : (flat ps).length ≤ 900000 := by omega
      obtain ⟨r, hr⟩ : ∃ r, Mac.hmac zs (flat ps) = r := ⟨_, rfl⟩
      have hr32 : r.length = 32 := by rw [← hr]; exact Mac.hmac_len _ _
      have E1 : ∀ W : World, (Op.equalIn 10000 b32T (.agg (nrow .u8 r).toArray) (.agg (nrow .u8 r).toArray)).run Tryd.prog W = .ok true W := fun W => by rw [eql_b32 W r r hr32 hr32, decide_eq_true rfl]
      have SN := sha_new r hr32
      have LR : (nrow .u8 r).length = 32 := by rw [nrow_len]; exact hr32
      have hi4 : (Tryd.prog.info? b32T).map (·.size) = some (nrow .u8 r).length := by rw [info_b32, LR]
      have Hlen9 := Lib.hid hfl
      have HF := Lib.hid hlen
      have HNA := Lib.hid hO.nums
      have Hr := Lib.hid hr
      have b10 : m' ≤ c' ∧ c' ≤ maxLen := by have := hO.len; rw [hlen] at this; exact this
      have Hb10 := Lib.hid b10
      have Hm2 := Lib.hid (show m' ≤ 2000 by omega)
      clear e hlen hO hlt hfl hr b10 HO hm'
      go_wp2_with (first
        | (at_builtin; refine wpList_append_rowA rfl (.tmp 41) (.tmp 42) 22 rfl i0 1 Tryd.underlying22 HI.out.1 HI.out.2.1 HI.out.2.2.1 HI.out.2.2.2 (by decide) 0 rfl rfl (OwnN.empty (base := wr.heap.size) (Nat.le_refl _)) B kn _ zs rfl Hnk.out ((HNk.out.below hB).alloc _) (by simp; omega) wr.heap.size wr (Nat.le_refl _) ((Below.refl _ _).alloc (Nat.le_refl _) _) ?_; intro A5 c5 w5 hO5 hB5; rw [Nat.zero_add])
        )
      rw [List.nil_append] at hO5
      have B5 := hB.trans (hB5.mono hB.size)
      have HK5 := Lib.hid hO5.nums
      have c5l : kn ≤ c5 ∧ c5 ≤ maxLen := by have := hO5.len; rw [Hnk.out] at this; exact this
      have HNA := Lib.hid (HNA.out.below hB5)
      refine (of_any w5 A5 kn c5 zs Hnk.out HK5.out c5l.1 c5l.2 (by omega) HWk.out A j cap ps (flat ps) r rfl Hr.out Hnp.out HCp.out.1 HCp.out.2 (HP.out.below B5) Hlen9.out (by omega) HW.out (HT.out.keep B5 HT.out.2)).mono ?_
      rintro e w6 ⟨rfl, hB6⟩
      have HK6 := Lib.hid (HK5.out.below hB6)
      have HNA := Lib.hid (HNA.out.below hB6)
      have B6 := B5.trans (hB6.mono B5.size)
      clear hO5 hB5 B5 HK5 hB6 hB
      go_upto_region 13 with (fail)
      have AN := (Below.refl w6.heap.size w6).alloc (Nat.le_refl _) (.cells (nrow .u8 r).toArray b32T)
      have R9 := row_new (W := w6) (cs := (nrow .u8 r).toArray) (t := b32T) (m := (0, 0))
      have HK7 := Lib.hid (HK6.out.below AN)
      have HNA := Lib.hid (HNA.out.below AN)
      have B7 := B6.trans (AN.mono B6.size)
      generalize w6.alloc (.cells (nrow .u8 r).toArray b32T) = V at R9 HK7 HNA B7 ⊢
      have HR9 := Lib.hid R9
      have HB7 := Lib.hid B7
      clear AN B6 HK6 SN z0 R9 B7
      obtain ⟨wo, hwo⟩ : ∃ wo, wo = wr := ⟨_, rfl⟩
      clear hwo
      go_wp2_with fail
      go_loopw [10, 11] (fun v i wr => ∃ (k : Nat) (A' : Option Addr) (c' m' : Nat), k ≤ j ∧ i = .int .i64 k ∧ v = .slice A' m' c' ∧ (flat (ps.take k)).length = m' ∧ OwnN .u8 5 V.heap.size wr A' c' (flat (ps.take k)) ∧ m' ≤ 2000 ∧ Below V.heap.size V wr) (fun _ i _ => j - (intOf i).toNat)
      case atStart => exact ⟨0, none, 0, 0, Nat.zero_le _, rfl, rfl, rfl, OwnN.nil (Nat.le_refl _), Nat.zero_le _, Below.refl _ _⟩
      case round =>
        obtain ⟨k, A', c2', m2, hkn, rfl, rfl, hlen, hO, hm2, hB⟩ := hrel
        have HO := Lib.hid hO
        have Hlen2 := Lib.hid hlen
        have HBw := Lib.hid (HB7.out.trans (hB.mono HB7.out.size))
        clear hO hlen
        have q0 : (0 : Int) ≤ (k : Int) := by omega
        by_cases hlt : k < j
        · have q1 : (k : Int) < (j : Int) := by omega
          obtain ⟨p, hp⟩ : ∃ p, ps[k]? = some p := ⟨_, List.getElem?_eq_getElem (by rw [Hnp.out]; exact hlt)⟩
          rcases (HP.out.below HBw.out) with h0 | ⟨b, off, rfl, hb, hc⟩
          · rw [h0] at hp; simp at hp
          obtain ⟨g1, g2, g3, g4⟩ := hc k p hp
          have Hs := Lib.hid (flat_snoc ps k p hp)
          have hle := flat_take_le (k + 1) ps
          rw [Hs.out, List.length_append, HF.out, Hlen2.out] at hle
          have Hg2 := Lib.hid g2
          clear hc g2 hp
          unfold maxLen at g4
          obtain ⟨pA, pc, pb⟩ := p
          simp only at g1 g3 g4 Hs Hg2 hle
          obtain ⟨m, hm⟩ : ∃ m, pb.length = m := ⟨_, rfl⟩
          rw [hm] at g1 g3 hle
          have Hm := Lib.hid hm
          have hm2' := Hm2.out
          have HL0 := Lib.hid (show (flat (ps.take k)).length + m < 17592186044415 by rw [Hlen2.out]; omega)
          clear hm
          go_wp2_with (first
            | (at_builtin; refine wpList_append_rowA rfl _ _ 22 rfl i0 1 Tryd.underlying22 HI.out.1 HI.out.2.1 HI.out.2.2.1 HI.out.2.2.2 (by decide) m2 Hlen2.out rfl HO.out pA m _ pb rfl Hm.out Hg2.out HL0.out V.heap.size V (Nat.le_refl _) hB ?_; intro A2 c2 w2 hO2 hB2)
            )
          go_roundw
          case rel => exact ⟨k + 1, A2, c2, m2 + m, by omega, by go_num, rfl, by rw [Hs.out, List.length_append, Hlen2.out, Hm.out], by rw [Hs.out]; exact hO2, by omega, hB2⟩
          case measure => simp [intOf]; omega
        · obtain rfl : k = j := by omega
          have e : ps.take k = ps := List.take_of_length_le (by rw [Hnp.out]; exact Nat.le_refl _)
          have hlen := Hlen2.out
          have hO := HO.out
          rw [e] at hlen hO
          have hmm : m2 = m' := hlen.symm.trans HF.out
          subst hmm
          have NA := HNA.out.below hB
          have NK := HK7.out.below hB
          have NG := hO.nums
          have NB := HNk.out.below HBw.out
          have R9 := row_kept HR9.out hB (row_lt HR9.out)
          have hl9 := row_lt R9
          obtain ⟨Tk, hTk⟩ : ∃ T, strOfNums zs = T := ⟨_, rfl⟩
          obtain ⟨Ta, hTa⟩ : ∃ T, strOfNums (flat ps) = T := ⟨_, rfl⟩
          have tx := fun (W : World) (A : Option Addr) (n c : Nat) (l : List Int) (T : ByteArray) (hN : Nums .u8 W A l) (hn : l.length = n) (hT : strOfNums l = T) => show CV A n c T W by
            unfold CV; rw [← hT]; exact text_of_nums Tryd.underlying22 Tryd.underlying5 Tryd.underlying9 hN hn
          obtain ⟨X, hX⟩ : ∃ X, X = wr := ⟨_, rfl⟩
          rw [← hX] at NA NK NG NB R9 hl9 HBw ⊢
          clear hX
          have ALL := Lib.hid (show ∀ W : World, Below X.heap.size X W → (W.rangeAt w6.heap.size 0 (nrow .u8 r) ∧ CV A5 kn c5 Tk W ∧ CV B kn kcap Tk W ∧ CV A' m2 c2' Ta W ∧ CV A2x m2 c' Ta W ∧ Below X.heap.size X W) from fun W h => ⟨range_row (row_kept R9 h hl9), tx W _ _ _ _ _ (NK.below h) Hnk.out hTk, tx W _ _ _ _ _ (NB.below h) Hnk.out hTk, tx W _ _ _ _ _ (NG.below h) hlen hTa, tx W _ _ _ _ _ (NA.below h) hlen hTa, h⟩)
          have KT := Lib.hid (show ∀ W : World, Below X.heap.size X W → Kt W from fun W h => (HT.out.keep HBw.out HT.out.2).keep h (Nat.lt_of_lt_of_le HT.out.2 HBw.out.size))
          have KO := Lib.hid (show ∀ (W : World) (g : Nat), Below X.heap.size X W → Parts W (some ⟨g, 0, none⟩) [⟨A2x, c', flat ps⟩] → Calls Tryd.prog 9 #[.slice B kn kcap, .slice (some ⟨g, 0, none⟩) 1 1] W fun e w' => e = .returned (.agg (nrow .u8 r).toArray) ∧ Below W.heap.size W w' from fun W g hW hP =>
            of_any W B kn kcap zs Hnk.out (NB.below hW) HCk.out.1 HCk.out.2 (by omega) HWk.out _ 1 1 _ (flat ps) r (by simp [flat]) Hr.out rfl (Nat.le_refl _) (show (1 : Nat) ≤ maxLen by decide) hP Hlen9.out (by decide) HW.out (KT.out W hW))
          have KD := Lib.hid (show Below X.heap.size X X.drew from below_drewN (Below.refl _ _) 1)
          have Y0 : Below X.heap.size X (X.alloc (.cells #[.slice A2x m2 c'] 22)) := (Below.refl _ _).alloc (Nat.le_refl _) _
          have KE := Lib.hid Y0
          have KF := Lib.hid (show Below X.heap.size X (X.alloc (.cells #[.slice A2x m2 c'] 22)).drew from below_drewN Y0 1)
          have PP := parts_one (W := X) (t := 22) (cap := c') (g := X.heap.size) rfl NA hlen Hb10.out.1 Hb10.out.2
          have KO1 := Lib.hid (KO.out _ X.heap.size KF.out (PP.below (below_drewN (Below.refl _ _) 1)))
          have KC := Lib.hid (show ∀ (W W' : World), Below X.heap.size X W → Below W.heap.size W W' → Below X.heap.size X W' from fun W W' h hb => h.trans (hb.mono h.size))
          have HB := Lib.hid (show ∀ W : World, Below X.heap.size X W → Below w.heap.size w W from fun W h => HBw.out.trans (h.mono HBw.out.size))
          have hu4 := Tryd.underlying24
          have hi4 : (Tryd.prog.info? b32T).map (·.size) = some (nrow .u8 r).length := by rw [info_b32, LR]
          clear NA NK NG NB R9 hl9 hTk hTa tx hlen hO e HO Hlen2 PP Y0 KO HNA HK7 HR9 HF
          go_upto_region 18 with (fail)
          go_region_held (fun W => W.rangeAt w6.heap.size 0 (nrow .u8 r) ∧ (convert 22 9 (.slice A5 kn c5)).run Tryd.prog W = .ok (.string Tk) W ∧ (convert 22 9 (.slice B kn kcap)).run Tryd.prog W = .ok (.string Tk) W ∧ (convert 22 9 (.slice A' m2 c2')).run Tryd.prog W = .ok (.string Ta) W ∧ (convert 22 9 (.slice A2x m2 c')).run Tryd.prog W = .ok (.string Ta) W ∧ Below X.heap.size X W)
            (first | (with_reducible exact ALL.out _ KD.out) | (with_reducible exact ALL.out _ KE.out) | (with_reducible exact ALL.out _ KF.out) | (with_reducible exact ALL.out _ hWn.out))
            (first
              | (go_at_call 9; with_reducible refine KO1.out.mono ?_; rintro e W9 ⟨rfl, hb⟩; have hWn := Lib.hid (KC.out _ _ KF.out hb)))
          all_goals
            go_wp2
            go_ret
            exact ⟨rfl, HB.out _ hWn.out⟩
theorem own : ownKnob Tryd.prog.godebug = none := by kernel_rfl
theorem laid : laidOutB Tryd.prog = true := by kernel_rfl

noncomputable def laidWorld (os : Os) : World := World.doorLaid Tryd.prog 400 os
theorem laid_met (os : Os) : laidMet Tryd.prog Rows.macRowsRow.laid ((laidWorld os).forCall (fun _ _ => 0) ⟨#[], #[.slice none 0 0, .slice none 0 0], []⟩).memory :=
  laidMet_of_run' 8 (by kernel_rfl) (by kernel_rfl)
theorem reads (os : Os) {H : Type} (enc : TypeId × Value → H) : ∃ places, DataW.whole enc Tryd.prog ((laidWorld os).forCall (fun _ _ => 0) ⟨#[], #[.slice none 0 0, .slice none 0 0], []⟩).memory Tryd.f7.params.toList Rows.macRowsSpec.vars false #[Value.slice none 0 0, .slice none 0 0].toList 8 = some ([.nil, .nil], [], places) :=
  ⟨[], by kernel_rfl⟩

set_option maxRecDepth 100000 in
theorem lifted (os : Os) (started : os.Started) (H : Type) (enc : TypeId × Value → H) (F : Stop.Interp) :
    ReturnsInHanded {} Tryd.checked os 7 .any ((OpenSpec.ofChange Rows.macRowsSpec).preRow enc Tryd.prog Tryd.f7 Rows.macRowsRow.domain false Rows.macRowsRow.laid) (((OpenSpec.ofChange Rows.macRowsSpec).at F).post enc Tryd.prog Tryd.f7 false true false false) := by
  obtain ⟨places, hx⟩ := reads os enc
  refine law_lifted_laid (C := Tryd.checked) (s := Rows.macRowsSpec) (B := 4) own started (by kernel_rfl) Tryd.func7
    (witness_row_at (enc := enc) (C := Tryd.checked) false (laidWorld os) #[.slice none 0 0, .slice none 0 0] rfl (by kernel_rfl) (by kernel_rfl) (by kernel_rfl)
      (OpenSpec.preRow_of_cond 8 hx (by kernel_rfl) (fun k hk => by cases hk) (by kernel_rfl) (laid_met os)))
    rfl rfl Tryd.underlying4 laid (of_decide_eq_true (by kernel_rfl)) ?_ ?_
  · intro ds hl
    rw [Tryd.params7] at hl
    match ds, hl with
    | [d0, d1], _ => rfl
  · intro W base args ds ps hval hA hlt hz hL
    rw [Tryd.params7] at hA hval
    obtain ⟨v0, vs0, d0, ds0, p0, q0, hargs, rfl, rfl, h0, r0⟩ := trodAll_cons hA
    obtain ⟨v1, vs1, d1, ds1, p1, q1, rfl, rfl, rfl, h1, r1⟩ := trodAll_cons r0
    obtain ⟨rfl, rfl, rfl⟩ := trodAll_nil r1
    obtain rfl : args = #[v0, v1] := by cases args; simp_all
    obtain ⟨A0, n0, cap0, zs0, rfl, hl0, hm0, hn0, hN0, hw0⟩ := open_nums Tryd.underlying22 Tryd.underlying5 (by kernel_rfl) (hval 0 22 v0 rfl rfl) h0
    obtain ⟨A1, n1, cap1, R1, C1, Z1, rfl, hl1, hm1, hP1⟩ := open_mat Tryd.underlying32 Tryd.underlying22 Tryd.underlying5 (by kernel_rfl) (by kernel_rfl) (hval 1 32 v1 rfl rfl) h1
    exact walk W hL A0 n0 cap0 zs0 hl0 hm0 hn0 hN0 hw0 A1 n1 cap1 R1 C1 Z1 hl1 hm1 hP1

theorem said : Rows.MacRowsSaid :=
  OpenClaim.holds_of_cond 7 Tryd.f7 rfl rfl rfl rfl rfl rfl rfl ⟨rfl, rfl, rfl, rfl, rfl⟩ rfl rfl rfl rfl rfl (by kernel_rfl) Tryd.func7 (by kernel_rfl)
    (of_decide_eq_true (by kernel_rfl)) (by unfold Func.isWrapper; first | (rw [if_pos (by decide +kernel)]; kernel_rfl) | (rw [if_neg (by decide +kernel)]; exact ⟨rfl, rfl⟩))
    (fun os started H enc _ F => by rw [OpenClaim.pre_eq_preRow]; exact lifted os started H enc F)
theorem plain (f : FuncId) (fn : Func) (hf : Tryd.pinned.checked.prog.funcNamed "nightjar/nightjarlaw03.MacRows" = some f) (hfn : Tryd.pinned.checked.prog.funcs[f]? = some fn) :
    false = Tryd.pinned.checked.prog.looks [] ∧ ∀ (j : Nat) t, fn.params[j]? = some t → Tryd.pinned.checked.prog.wantsStandIn t = false := by
  obtain rfl : f = 7 := Option.some.inj ((show Tryd.prog.funcNamed "nightjar/nightjarlaw03.MacRows" = some 7 by kernel_rfl).symm.trans hf) |>.symm
  obtain rfl : fn = Tryd.f7 := (Option.some.inj (Tryd.func7.symm.trans hfn)).symm
  refine ⟨by kernel_rfl, fun j t ht => ?_⟩
  have hm : t ∈ Tryd.f7.params.toList := by simpa using Array.mem_of_getElem? ht
  have hall : (Tryd.f7.params.toList.all fun u => !Tryd.prog.wantsStandIn u) = true := by kernel_rfl
  exact (show Tryd.prog.wantsStandIn t = false by simpa using List.all_eq_true.1 hall t hm)

theorem proved : Rows.MacRowsCardSaid :=
  Claim7.holds_tied_plain_at .later [] _ _ _ _ said (fun _ h => by cases h) (by kernel_rfl) (fun _ h => by cases h) macRows_row_tie rfl ⟨rfl, rfl⟩ (by kernel_rfl) rfl plain (by kernel_rfl)
#print axioms proved
end Go.Proofs.YtmdlhcelibciiaaDoor.macRows
