/- Package channel: a Tick that sends again. -/
import Derived.Test.YtiecebncnflpiaaTick
import Derived.Test.YtiecebncnflpiaaNumAt
namespace Go.Proofs.Ytiecebncnflpiaa
open Go.ChangeShapes Go.WideShapes Go.ChangeAt Go.RowKit Go.Shelf
attribute [-go_sem] run_eql_struct run_neq_struct
section
variable {n ww cc : Int} {l : List Fl} {n' ww' cc' : Int} {L : List Fl} {k k' c c2 : Nat} {A A2 : Option Addr} {w : World} {s v r f s' v' r' f' : Int} {h h' : Bool}
set_option maxRecDepth 10000 in
set_option maxHeartbeats 8000000 in
theorem tick_some (hr : Sd.right ⟨n, l, ww, cc⟩ = true) (h64 : 0 ≤ r ∧ r ≤ 1099511627776) (hn : l.length = k) (hN : Fls w A l) {now most : Int} (hnow : 0 ≤ now ∧ now ≤ 1099511627776) {ds : List Int} (hds : Sd.due l now r = ds) (hd0 : 0 < ds.length) (hm1 : 1 ≤ most) {m : Nat} (hm : (min most (ds.length : Int)).toNat = m)
    {G : List Fl} (hp : Sd.ticks now (ds.take m) (Sd.lost ⟨n, l, ww, cc⟩) [] = (⟨n', L, ww', cc'⟩, G)) (hk : L.length = k') (he : Rtt.backoff ⟨s, v, r, f, h⟩ = ⟨s', v', r', f', h'⟩) :
    Calls Try.prog 21 #[chV n A k c ww cc s v r f h, .int .i64 now, .int .i64 most] w fun e w' => ∃ A' c' B cB, e = .returned (.tuple #[chV n' A' k' c' ww' cc' s' v' r' f' h', .slice B m cB]) ∧ (OwnF w.heap.size w' A' k' c' L ∧ OwnF w.heap.size w' B m cB G) ∧ Below w.heap.size w w' := by
  have zc := zero_chan
  have z1 := zero_fl
  have R3 := a_lift (p := chZ) (a_new w (chO n A k c ww cc s v r f h))
  have R6 := a_new2 w (chO n A k c ww cc s v r f h) chZ
  have B0 := below_alloc2 w (chO n A k c ww cc s v r f h) chZ
  obtain ⟨h1, h2, h3, h4, h5⟩ := right_bd hr
  have h8 : k ≤ 8 := by rw [← hn]; exact h4
  have hln := Sd.due_len l now r
  rw [hds, hn] at hln
  have hmd : m ≤ ds.length ∧ 1 ≤ m := by rw [← hm, Int.min_def]; split <;> omega
  have hmin : ∀ W : World, (Builtin.min_ #[3, 3] 3 #[.int .i64 most, .int .i64 (ds.length : Int)]).run Try.prog W = .ok (.int .i64 (m : Int)) W := fun W => by
    rcases Int.lt_or_le (ds.length : Int) most with h | h
    · have e : (m : Int) = (ds.length : Int) := by rw [← hm, Int.min_def]; split <;> omega
      rw [e]
      simp [Builtin.min_, Builtin.min2, h]
    · have e : (m : Int) = most := by rw [← hm, Int.min_def]; split <;> omega
      rw [e]
      simp [Builtin.min_, Builtin.min2, show ¬ (ds.length : Int) < most by omega]
  have hlr := lost_right hr
  obtain ⟨n0, l0, w0, c0, hL0⟩ : ∃ n0 l0 w0 c0, Sd.lost ⟨n, l, ww, cc⟩ = ⟨n0, l0, w0, c0⟩ := ⟨_, _, _, _, rfl⟩
  have hl0 : l0.length = k := by
    have := congrArg (fun x : Sd => x.l.length) hL0
    exact this.symm.trans hn
  rw [hL0] at hlr hp
  have HR := Lib.hid hr
  have Hn := Lib.hid hn
  have HN := Lib.hid (Fls.below hN B0)
  have HD := Lib.hid hds
  have HL0 := Lib.hid hL0
  have HLR := Lib.hid hlr
  have Hl0 := Lib.hid hl0
  have HP := Lib.hid hp
  have Hk := Lib.hid hk
  have HE := Lib.hid he
  have K3 := row_cells R3
  have q1 : ((ds.length : Int) == 0) = false := beq_eq_false_iff_ne.2 (by omega)
  have q2 : decide (most < 1) = false := decide_eq_false (by clear hm; omega)
  have q3 : (m : Int) ≤ (ds.length : Int) := by have := hmd.1; clear hm; omega
  have q4 : (0 : Int) ≤ (m : Int) := Int.natCast_nonneg _
  clear hr hn hN hds hp hk he hL0 hlr hl0 h5 h4 hm
  go_enter Try.func21, Try.ntmps21
  go_wp2_with fail
  refine (due_right HR.out Hn.out HN.out h64 HD.out).mono ?_
  rintro e w1 ⟨AD, cD, rfl, hO, hb⟩
  have R3 := row_kept R3 hb (row_lt R3)
  have R6 := row_kept R6 hb (row_lt R6)
  have hz0 := B0.size
  have B1 := B0.trans (hb.mono B0.size)
  have N1 := HN.out.below hb
  have ND : Nums .i64 w1 AD ds := hO.nums
  have hcD := (OwnN.len hO).1
  have q5 : (m : Int) ≤ (cD : Int) := by omega
  clear hb K3 hO
  have K3 := row_cells R3
  go_wp2_with fail
  refine (lost_to HR.out Hn.out N1 HL0.out).mono ?_
  rintro e w2 ⟨A2, c2, rfl, hO, hb⟩
  have hg9 := hb.size
  have hlt3 : w.heap.size < w1.heap.size := row_lt R3
  have hlt6 : w.heap.size + 1 < w1.heap.size := row_lt R6
  have B2 : Below w1.heap.size w1 (w2.alloc (seO n0 A2 k c2 w0 c0)) := hb.alloc hb.size _
  have R9 := a_new w2 (seO n0 A2 k c2 w0 c0)
  have hO2 : OwnF w1.heap.size (w2.alloc (seO n0 A2 k c2 w0 c0)) A2 k c2 l0 := OwnR.alloc hO _
  have hA2 : ∀ a, A2 = some a → a.block ≠ w2.heap.size := fun a e => by have := (hO.block' e).2; omega
  have H0 := Lib.hid (And.intro B2 (And.intro R9 (And.intro hO2 hA2)))
  have HB1 := Lib.hid B1
  have HR3 := Lib.hid (And.intro R3 R6)
  clear hb K3 hO hO2 hA2 B2 R9 B1 R3 R6 N1
  go_wp2
  go_loopw [10, 45] (fun ag i wr => ∃ (j : Nat) (n1 : Int) (A1 : Option Addr) (k1 c1 : Nat) (L1 : List Fl) (ww1 cc1 : Int) (B : Option Addr) (cB : Nat) (G1 : List Fl), j ≤ m ∧ i = .int .i64 j ∧ ag = .slice B j cB ∧ Hid (Sd.ticks now (ds.take j) ⟨n0, l0, w0, c0⟩ [] = (⟨n1, L1, ww1, cc1⟩, G1)) ∧ Hid (Sd.right ⟨n1, L1, ww1, cc1⟩ = true) ∧ Hid (L1.length = k1) ∧ wr.heap[w2.heap.size]? = some (seO n1 A1 k1 c1 ww1 cc1) ∧ Hid (OwnF w1.heap.size wr A1 k1 c1 L1 ∧ ∀ a, A1 = some a → a.block ≠ w2.heap.size) ∧ Hid (OwnF (w2.heap.size + 1) wr B j cB G1) ∧ Below w1.heap.size w1 wr) (fun _ i _ => m - (intOf i).toNat)
  case atStart =>
    obtain ⟨B2, R9, hO2, hA2⟩ := H0.out
    exact ⟨0, n0, A2, k, c2, l0, w0, c0, none, 0, [], Nat.zero_le _, rfl, rfl, (rfl : Sd.ticks now (ds.take 0) ⟨n0, l0, w0, c0⟩ [] = _), HLR, Hl0, R9, ⟨hO2, hA2⟩, (OwnR.nil (by simp) : OwnF (w2.heap.size + 1) _ none 0 0 []), B2⟩
  case round =>
    obtain ⟨j, n1, A1, k1, c1, L1, ww1, cc1, B, cB, G1, hj, rfl, rfl, HT, HR1, Hn1, R9, HA, HG, BW⟩ := hrel
    have hgw : w2.heap.size < wr.heap.size := row_lt R9
    have hw1 : w1.heap.size ≤ wr.heap.size := BW.size
    by_cases hjm : j < m
    · have hjd : j < ds.length := by omega
      obtain ⟨bd, offd, rfl, hbd, cd⟩ := Nums.at (ND.below BW) hjd
      have hsn : ds.take (j + 1) = ds.take j ++ [ds.getD j 0] := by
        rw [List.take_succ_eq_append_getElem hjd]
        simp [List.getD, hjd]
      have htk := ticks_snoc now (ds.take j) (ds.getD j 0) ⟨n0, l0, w0, c0⟩ []
      rw [← hsn, HT.out] at htk
      dsimp only at htk
      generalize ds.getD j 0 = q at cd htk
      obtain ⟨n4, L4, ww4, cc4, g4, ok4, hp4⟩ : ∃ n4 L4 ww4 cc4 g4 ok4, Sd.resend ⟨n1, L1, ww1, cc1⟩ q now = (⟨n4, L4, ww4, cc4⟩, g4, ok4) := ⟨_, _, _, _, _, _, rfl⟩
      have hr4 := (resend_right HR1.out q now hnow).1
      rw [hp4] at hr4 htk
      dsimp only at hr4 htk
      obtain ⟨k4, hk4⟩ : ∃ k4, L4.length = k4 := ⟨_, rfl⟩
      have HTK := Lib.hid htk
      have HR4 := Lib.hid hr4
      have HP4 := Lib.hid hp4
      have Hk4 := Lib.hid hk4
      clear hsn htk hr4 hp4 hk4
      obtain ⟨gq, gu, gv, gs, gc, ga, gt⟩ := g4
      have p0 : (0 : Int) ≤ (j : Int) := by omega
      have p1 : (j : Int) < (m : Int) := by omega
      have K9 := fun o => row_cells (a_lift (p := o) R9)
      go_wp2_with fail
      refine (resend_to HR1.out Hn1.out (Nums.alloc HA.out.1.fls flZ) HP4.out Hk4.out).mono ?_
      rintro e w4 ⟨A4, c4, rfl, hO, hb⟩
      have R9' := row_kept (a_lift R9) hb (by simp; omega)
      have R13 := row_kept (a_new wr flZ) hb (by simp)
      have hne : wr.heap.size ≠ w2.heap.size := by omega
      have hA4 : ∀ a, A4 = some a → wr.heap.size + 1 ≤ a.block := fun a e => by have := (hO.block' e).1; simpa using this
      have hBb : ∀ a, B = some a → a.block < wr.heap.size := fun a e => (HG.out.block' e).2
      have OA := OwnR.setRow (g := wr.heap.size) (t := flT) (cs := #[.int .i64 gq, .int .i64 gu, .int .i64 gv, .int .i64 gs, .int .i64 gc, .int .i64 ga, .int .i64 gt]) (OwnR.setRow (g := w2.heap.size) (t := seT) (cs := #[.int .i64 n4, .slice A4 k4 c4, .int .i64 ww4, .int .i64 cc4]) hO (by simp; omega)) (by simp)
      have OG := OwnR.setRow_ne (g := wr.heap.size) (t := flT) (cs := #[.int .i64 gq, .int .i64 gu, .int .i64 gv, .int .i64 gs, .int .i64 gc, .int .i64 ga, .int .i64 gt]) (OwnR.setRow (g := w2.heap.size) (t := seT) (cs := #[.int .i64 n4, .slice A4 k4 c4, .int .i64 ww4, .int .i64 cc4]) (OwnR.below (OwnR.alloc HG.out flZ) hb) (Nat.lt_succ_self _)) (fun a e => by have := hBb a e; omega)
      have BY := setRow_below (g := wr.heap.size) (t := flT) (cs := #[.int .i64 gq, .int .i64 gu, .int .i64 gv, .int .i64 gs, .int .i64 gc, .int .i64 ga, .int .i64 gt]) (setRow_below (g := w2.heap.size) (t := seT) (cs := #[.int .i64 n4, .slice A4 k4 c4, .int .i64 ww4, .int .i64 cc4]) ((BW.alloc BW.size flZ).trans (hb.mono (BW.alloc BW.size flZ).size)) hg9) hw1
      have RY := (setRow_far (t := flT) (cs := #[.int .i64 gq, .int .i64 gu, .int .i64 gv, .int .i64 gs, .int .i64 gc, .int .i64 ga, .int .i64 gt]) (fun e => hne e.symm)).trans (setRow_row (t := seT) (cs := #[.int .i64 n4, .slice A4 k4 c4, .int .i64 ww4, .int .i64 cc4]) (row_lt R9'))
      have HY := Lib.hid (And.intro OA (And.intro OG (And.intro BY RY)))
      obtain ⟨s0, s1, x1, f1, x2, f2, s2, s3, x3, f3, y1, x0, f0, x02, f02⟩ := rows2 R9' R13 hne
      obtain ⟨i0, hi, hz0', hz1', hz2'⟩ := info_parts infoF
      have HI := Lib.hid (And.intro hi (And.intro hz0' (And.intro hz1' hz2')))
      have HAB := Lib.hid (And.intro hA4 hBb)
      have Hw4 := hb.size
      clear hi hz0' hz1' hz2' OA OG BY RY K9 hb hO hA4 hBb R9' R13
      go_wp2_with (first
        | (at_builtin; refine wpList_append_recsG rfl _ _ 22 rfl i0 _ 56 Try.underlying22 HI.out.1 HI.out.2.1 HI.out.2.2.1 HI.out.2.2.2 (by decide) rfl (by decide) rfl (OwnR.alloc HY.out.2.1 _) _ 1 _ [gq, gu, gv, gs, gc, ga, gt] rfl rfl (Nums.new _ _ _ _ _ (by simp [setRow_size]) rfl) (by omega) (w2.heap.size + 1) _ (Nat.le_refl _) (Below.refl _ _) ?_; intro A5 c5 w5 hO5 hb5 hG5; have HO5 := Lib.hid hO5; have HB5 := Lib.hid hb5; have HG5 := Lib.hid hG5; clear hO5 hb5 hG5))
      go_roundw
      case rel =>
        obtain ⟨OA, OG, BY, RY⟩ := HY.out
        have h1 : flf (G1 ++ [⟨gq, gu, gv, gs, gc, ga, gt⟩]) = flf G1 ++ [gq, gu, gv, gs, gc, ga, gt] := by unfold flf; rw [flt_app, flt_one]; rfl
        refine ⟨j + 1, n4, A4, k4, c4, L4, ww4, cc4, A5, c5, G1 ++ [⟨gq, gu, gv, gs, gc, ga, gt⟩], by omega, by go_num, rfl, HTK, HR4, Hk4, row_kept (a_lift RY) HB5.out (Nat.lt_succ_self _), ?_, ?_, ?_⟩
        · exact (⟨OwnR.lower (OwnR.grown (OwnR.alloc OA _) HG5.out (fun a e => by
            have h2 := HAB.out.1 a e
            cases B with
            | none => simp
            | some b =>
              have h3 := HAB.out.2 b rfl
              simp only [Option.map_some, ne_eq, Option.some.injEq]
              omega)) (by simp; omega), fun a e => by have h2 := HAB.out.1 a e; omega⟩ : OwnF w1.heap.size w5 A4 k4 c4 L4 ∧ ∀ a, A4 = some a → a.block ≠ w2.heap.size)
        · exact (show OwnF (w2.heap.size + 1) w5 A5 (j + 1) c5 (G1 ++ [⟨gq, gu, gv, gs, gc, ga, gt⟩]) by unfold OwnF; rw [h1]; exact HO5.out)
        · exact (BY.alloc BY.size _).trans (HB5.out.mono (by omega))
      case measure => simp [intOf]; omega
    · obtain rfl : j = m := by omega
      have hfin := HT.out.symm.trans HP.out
      simp only [Prod.mk.injEq, Sd.mk.injEq] at hfin
      obtain ⟨⟨rfl, rfl, rfl, rfl⟩, rfl⟩ := hfin
      obtain rfl : k1 = k' := by rw [← Hn1.out, Hk.out]
      have R3 := row_kept HR3.out.1 BW hlt3
      have R6 := row_kept HR3.out.2 BW hlt6
      have K3 := row_cells R3
      have K9 := row_cells R9
      have HBW := Lib.hid (HB1.out.trans (BW.mono HB1.out.size))
      have l3 := row_lt R3
      have l6 := row_lt R6
      have l9 := row_lt R9
      have HRR := Lib.hid (And.intro R3 (And.intro R6 R9))
      have hws : w.heap.size ≤ w1.heap.size := by omega
      clear BW R3 R6 R9
      go_wp2_with fail
      go_region_with (go_at_call 44; refine (rt.backoff_to HE.out _).mono ?_; rintro e w6 ⟨rfl, hb⟩; have R3' := row_kept (w := wr.drew) HRR.out.1 hb l3; have R6' := row_kept (w := wr.drew) HRR.out.2.1 hb l6; have R9' := row_kept (w := wr.drew) HRR.out.2.2 hb l9; have K3' := row_cells R3'; have K9' := row_cells R9'; obtain ⟨s0, s1, x0, x1, f0, f1, sz⟩ := rows1 R6'; have HB3 := Lib.hid (show Below wr.heap.size wr w6 from ⟨hb.os, hb.tape, hb.output, hb.size, hb.block⟩); clear hb R3' R6' R9')
      all_goals
        go_wp2
        refine bodyPost_ret (v := .tuple #[chV n1 A1 k1 c1 ww1 cc1 s' v' r' f' h', .slice B j cB]) ?_ rfl ⟨_, _, _, _, rfl, ⟨?_, ?_⟩, ?_⟩
        · simp [results, Try.results21, go_sem, x1]
        · exact OwnR.lower (OwnR.setRow (OwnR.below HA.out.1 HB3.out) (by omega)) hws
        · exact OwnR.lower (OwnR.setRow (OwnR.below HG.out HB3.out) (by omega)) (by omega)
        · exact setRow_below (HBW.out.trans (HB3.out.mono HBW.out.size)) (Nat.le_succ _)
end
end Go.Proofs.Ytiecebncnflpiaa
