/- What the functions of package send come to, one contract each. -/
import Derived.Test.YtiecebncnflpiaaRows
import Derived.Test.YtiecebncnflpiaaRecs
import Derived.Test.YtiecebncnflpiaaFl
import Derived.Test.YtiecebncnflpiaaTail
import Derived.WalkKit
import Derived.ProofKit
import Derived.OpenShut
import Derived.Outline
import Derived.Lib.Hide
import Derived.BigQuiet
import Derived.Laws.ResultCell
namespace Go.Proofs.Ytiecebncnflpiaa
open Go.ChangeShapes Go.WideShapes Go.ChangeAt Go.RowKit

abbrev seT : TypeId := 24
abbrev flT : TypeId := 42
abbrev noT : TypeId := 34
/-- A flight as a value; a Send as a value. -/
abbrev Fl.val (f : Fl) : Value := .agg #[.int .i64 f.q, .int .i64 f.u, .int .i64 f.v, .int .i64 f.s, .int .i64 f.c, .int .i64 f.a, .int .i64 f.t]
theorem infoF : (Try.prog.info? flT).map (fun i => (i.zero, i.size, i.bytes)) = some (some (.agg #[.int .i64 0, .int .i64 0, .int .i64 0, .int .i64 0, .int .i64 0, .int .i64 0, .int .i64 0]), 7, 56) := by kernel_rfl
theorem zero_send (W : World) : (zeroValue seT).run Try.prog W = .ok (.agg #[.int .i64 0, .slice none 0 0, .int .i64 0, .int .i64 0]) W := by kernel_rfl
theorem zero_fl (W : World) : (zeroValue flT).run Try.prog W = .ok (.agg #[.int .i64 0, .int .i64 0, .int .i64 0, .int .i64 0, .int .i64 0, .int .i64 0, .int .i64 0]) W := by kernel_rfl
/-- A row of flights. -/
def Fls (w : World) (A : Option Addr) (l : List Fl) : Prop := Nums .i64 w A (flf l)
def OwnF (base : Nat) (w : World) (A : Option Addr) (n c : Nat) (l : List Fl) : Prop := OwnR 7 flT base w A n c (flf l)
theorem OwnF.fls {base : Nat} {w : World} {A : Option Addr} {n c : Nat} {l : List Fl} (h : OwnF base w A n c l) : Fls w A l := h.nums
theorem OwnF.len {base : Nat} {w : World} {A : Option Addr} {n c : Nat} {l : List Fl} (h : OwnF base w A n c l) : l.length = n := by
  have := h.zlen
  rw [flf_len] at this
  omega
theorem Fls.below {w w' : World} {A : Option Addr} {l : List Fl} (h : Fls w A l) (hb : Below w.heap.size w w') : Fls w' A l := Nums.below h hb
theorem Fls.at {w : World} {A : Option Addr} {l : List Fl} (h : Fls w A l) {i : Nat} (hi : i < l.length) : ∃ b off, A = some ⟨b, off, none⟩ ∧ b < w.heap.size ∧
    w.cell? ⟨b, off + i * 7, none⟩ = some (.int .i64 (l.getD i .zero).q) ∧ w.cell? ⟨b, off + i * 7 + 1, none⟩ = some (.int .i64 (l.getD i .zero).u) ∧ w.cell? ⟨b, off + i * 7 + 2, none⟩ = some (.int .i64 (l.getD i .zero).v) ∧
    w.cell? ⟨b, off + i * 7 + 3, none⟩ = some (.int .i64 (l.getD i .zero).s) ∧ w.cell? ⟨b, off + i * 7 + 4, none⟩ = some (.int .i64 (l.getD i .zero).c) ∧ w.cell? ⟨b, off + i * 7 + 5, none⟩ = some (.int .i64 (l.getD i .zero).a) ∧
    w.cell? ⟨b, off + i * 7 + 6, none⟩ = some (.int .i64 (l.getD i .zero).t) := by
  rcases h with h | ⟨b, off, hA, hb, hc⟩
  · have := flf_len l; rw [h] at this; simp at this; omega
  · have g : ∀ j, j < 7 → w.cell? ⟨b, off + (i * 7 + j), none⟩ = some (.int .i64 (((l.getD i .zero).enc).getD j 0)) := fun j hj => by
      rw [hc (i * 7 + j) (by rw [flf_len]; omega), flt_get Fl.enc_len Fl.zero l i j hi hj]
    exact ⟨b, off, hA, hb, g 0 (by omega), g 1 (by omega), g 2 (by omega), g 3 (by omega), g 4 (by omega), g 5 (by omega), g 6 (by omega)⟩

theorem OwnR.setRow {base m n c g : Nat} {w : World} {A : Option Addr} {E t : TypeId} {cs : Array Value} {zs : List Int} (h : OwnR m E base w A n c zs) (hg : g < base) : OwnR m E base (setRow w g t cs) A n c zs := by
  refine ⟨⟨h.1.1, ?_⟩, by rw [setRow_size]; exact h.2⟩
  rcases h.1.2 with h1 | ⟨b, cap, cur, hv, hb, hh, r⟩
  · exact Or.inl h1
  · exact Or.inr ⟨b, cap, cur, hv, hb, (setRow_far (by omega)).trans hh, r⟩
theorem within_any (n a b : Int) (w : World) : Calls Try.prog 48 #[.int .i64 n, .int .i64 a, .int .i64 b] w fun e w' => e = .returned (.bool (decide (a ≤ n ∧ n ≤ b))) ∧ w = w' := by
  have hcase : (n < a) ∨ (a ≤ n ∧ b < n) ∨ (a ≤ n ∧ n ≤ b) := by omega
  rcases hcase with h | ⟨h0, h⟩ | ⟨h0, h⟩
  all_goals
    go_enter Try.func48, Try.ntmps48
    go_wp2
    go_ret
    exact ⟨ret_bool (by simp <;> omega), rfl⟩

theorem clone_any (w : World) (A : Option Addr) (n c : Nat) (l : List Fl) (hn : l.length = n) (hN : Fls w A l) (hlen : n ≤ 1000000) :
    Calls Try.prog 41 #[.slice A n c] w fun e w' => ∃ A' c', e = .returned (.slice A' n c') ∧ OwnF w.heap.size w' A' n c' l ∧ Below w.heap.size w w' := by
  obtain ⟨i0, hi, hz0, hz1, hz2⟩ := info_parts infoF
  have HI := Lib.hid (And.intro hi (And.intro hz0 (And.intro hz1 hz2)))
  have Hn := Lib.hid (show (flf l).length = n * 7 by rw [flf_len, hn])
  have HN := Lib.hid hN
  clear hi hz0 hz1 hz2 hN
  cases A with
  | none =>
    obtain rfl : l = [] := by
      rcases HN.out with h | ⟨b, off, h, _⟩
      · have := flf_len l; rw [h] at this; simp at this; exact List.eq_nil_of_length_eq_zero (by omega)
      · cases h
    obtain rfl : n = 0 := by simpa using hn.symm
    have hq : (binOp .eql 22 (.slice none 0 c) (.slice none 0 0)).run Try.prog w = .ok (.bool true) w := by kernel_rfl
    clear hn
    go_enter Try.func41, Try.ntmps41
    go_wp2
    go_ret
    exact ⟨none, 0, rfl, OwnR.nil (Nat.le_refl _), Below.refl _ _⟩
  | some a =>
    have hq : (binOp .eql 22 (.slice (some a) n c) (.slice none 0 0)).run Try.prog w = .ok (.bool false) w := by kernel_rfl
    clear hn
    go_enter Try.func41, Try.ntmps41
    go_wp2_with (first
      | (at_builtin; refine wpList_append_recs rfl _ _ 22 rfl i0 _ 56 Try.underlying22 HI.out.1 HI.out.2.1 HI.out.2.2.1 HI.out.2.2.2 (by decide) rfl (by decide) rfl (OwnR.lit (n := 0) (m := 7) (zs := []) #[] (Nat.le_refl _) (Nat.zero_le _) rfl rfl) a n _ (flf l) rfl Hn.out (HN.out.alloc _) (by omega) w.heap.size w (Nat.le_refl _) ((Below.refl _ _).alloc (Nat.le_refl _) _) ?_; intro A4 c4 w4 hO4 hB4)
      )
    go_ret
    exact ⟨A4, c4, by simp, by unfold OwnF; simpa using hO4, hB4⟩

set_option maxHeartbeats 1000000 in
theorem renewed_any (w : World) (n ww cc : Int) (A : Option Addr) (k c : Nat) (l : List Fl) (hn : l.length = k) (hN : Fls w A l) (hlen : k ≤ 1000000) :
    Calls Try.prog 59 #[.agg #[.int .i64 n, .slice A k c, .int .i64 ww, .int .i64 cc]] w fun e w' => ∃ A' c', e = .returned (.agg #[.int .i64 n, .slice A' k c', .int .i64 ww, .int .i64 cc]) ∧ OwnF w.heap.size w' A' k c' l ∧ Below w.heap.size w w' := by
  have z0 := zero_send
  have Hn := Lib.hid hn
  have HN := Lib.hid hN
  clear hn hN
  go_enter Try.func59, Try.ntmps59
  go_wp2_with fail
  refine (clone_any _ A k c l Hn.out ((HN.out.alloc _).alloc _) hlen).mono ?_
  rintro e w2 ⟨A2, c2, rfl, hO, hb⟩
  obtain ⟨R1, R2, -, hB⟩ := two_blocks hb
  have hO : OwnF (w.heap.size + 2) w2 A2 k c2 l := OwnR.lower hO (by simp)
  clear hb
  obtain ⟨s0, s1, c1, f1, c2', f2, s2, s3, c3, f3, z1, c0, f0, c02, f02⟩ := rows2 R1 R2 (by omega)
  have HO := Lib.hid hO
  have HB := Lib.hid hB
  clear hO hB R1 R2
  go_wp2
  refine bodyPost_ret (v := .agg #[.int .i64 n, .slice A2 k c2, .int .i64 ww, .int .i64 cc]) ?_ rfl ⟨_, _, rfl, ?_, ?_⟩
  · simp [results, Try.results59, go_sem, c3]
  · exact OwnR.lower ((OwnR.setRow (OwnR.setRow HO.out (by omega)) (by omega))) (by omega)
  · exact setRow_below (setRow_below HB.out (Nat.le_refl _)) (by omega)
theorem within_to {n a b : Int} {r : Bool} (h : decide (a ≤ n ∧ n ≤ b) = r) (w : World) : Calls Try.prog 48 #[.int .i64 n, .int .i64 a, .int .i64 b] w fun e w' => e = .returned (.bool r) ∧ w = w' := by
  subst h
  exact within_any n a b w

set_option maxRecDepth 10000 in
set_option maxHeartbeats 2000000 in
theorem right_to (w : World) (n ww cc : Int) (A : Option Addr) (k c : Nat) (l : List Fl) (hn : l.length = k) (hN : Fls w A l) (hk : k ≤ 9223372036854775807) {v : Bool} (hv : Sd.right ⟨n, l, ww, cc⟩ = v) :
    Calls Try.prog 24 #[.agg #[.int .i64 n, .slice A k c, .int .i64 ww, .int .i64 cc]] w fun e w' => e = .returned (.bool v) ∧ Below w.heap.size w w' := by
  have z1 := zero_fl
  unfold Sd.right at hv
  dsimp only [Sd.least] at hv
  rw [hn] at hv
  obtain ⟨r1, h1⟩ : ∃ r, decide (1 ≤ n ∧ n ≤ 1073741824) = r := ⟨_, rfl⟩
  obtain ⟨r2, h2⟩ : ∃ r, decide (1 ≤ ww ∧ ww ≤ 8) = r := ⟨_, rfl⟩
  obtain ⟨r3, h3⟩ : ∃ r, decide (0 ≤ cc ∧ cc ≤ 7) = r := ⟨_, rfl⟩
  rw [h1, h2, h3] at hv
  obtain ⟨V, hV⟩ : ∃ V, w.alloc (.cells #[.int .i64 n, .slice A k c, .int .i64 ww, .int .i64 cc] seT) = V := ⟨_, rfl⟩
  have R1 : V.heap[w.heap.size]? = some (.cells #[.int .i64 n, .slice A k c, .int .i64 ww, .int .i64 cc] seT) := by rw [← hV]; exact (MapKept.heap_alloc w _).1
  have BV : Below w.heap.size w V := by rw [← hV]; exact (Below.refl _ _).alloc (Nat.le_refl _) _
  have K1 := row_cells R1
  have Hn := Lib.hid hn
  have HN := Lib.hid (Fls.below hN BV)
  have H1 := Lib.hid h1
  have H2 := Lib.hid h2
  have H3 := Lib.hid h3
  have HV := Lib.hid hv
  have HR := Lib.hid R1
  clear hn hN hv h1 h2 h3 R1
  cases r1
  · have HV := HV.out
    simp only [Bool.false_and] at HV
    subst HV
    go_enter Try.func24, Try.ntmps24
    go_wp2_with (first
      | (go_at_call 48; with_reducible refine (within_to H1.out _).mono ?_; rintro e w' ⟨rfl, rfl⟩))
    go_ret
    exact ⟨rfl, BV⟩
  cases r2
  · have HV := HV.out
    simp only [Bool.false_and, Bool.and_false] at HV
    subst HV
    go_enter Try.func24, Try.ntmps24
    go_wp2_with (first
      | (go_at_call 48; with_reducible refine (within_to H1.out _).mono ?_; rintro e w' ⟨rfl, rfl⟩)
      | (go_at_call 48; with_reducible refine (within_to H2.out _).mono ?_; rintro e w' ⟨rfl, rfl⟩))
    go_ret
    exact ⟨rfl, BV⟩
  cases r3
  · have HV := HV.out
    simp only [Bool.false_and, Bool.and_false] at HV
    subst HV
    go_enter Try.func24, Try.ntmps24
    go_wp2_with (first
      | (go_at_call 48; with_reducible refine (within_to H1.out _).mono ?_; rintro e w' ⟨rfl, rfl⟩)
      | (go_at_call 48; with_reducible refine (within_to H2.out _).mono ?_; rintro e w' ⟨rfl, rfl⟩)
      | (go_at_call 48; with_reducible refine (within_to H3.out _).mono ?_; rintro e w' ⟨rfl, rfl⟩))
    go_ret
    exact ⟨rfl, BV⟩
  by_cases h8 : 8 < k
  · have HV := HV.out
    rw [decide_eq_false (show ¬ k ≤ 8 by omega)] at HV
    simp only [Bool.false_and, Bool.and_false] at HV
    subst HV
    go_enter Try.func24, Try.ntmps24
    go_wp2_with (first
      | (go_at_call 48; with_reducible refine (within_to H1.out _).mono ?_; rintro e w' ⟨rfl, rfl⟩)
      | (go_at_call 48; with_reducible refine (within_to H2.out _).mono ?_; rintro e w' ⟨rfl, rfl⟩)
      | (go_at_call 48; with_reducible refine (within_to H3.out _).mono ?_; rintro e w' ⟨rfl, rfl⟩))
    go_ret
    exact ⟨rfl, BV⟩
  · have HV' := HV.out
    rw [decide_eq_true (show k ≤ 8 by omega)] at HV'
    simp only [Bool.true_and] at HV'
    obtain ⟨m, hm⟩ : ∃ m, max 1 (n - 8) = m := ⟨_, rfl⟩
    rw [hm] at HV'
    have HV := Lib.hid HV'
    have HM := Lib.hid hm
    clear HV' hm
    have hn1 : 1 ≤ n ∧ n ≤ 1073741824 := of_decide_eq_true H1.out
    have e1 : IntKind.i64.wrap (n - 8) = n - 8 := IntWalk.i64_in _ (by omega)
    have e2 : IntKind.i64.wrap (n - 1) = n - 1 := IntWalk.i64_in _ (by omega)
    have h8' : (k : Int) ≤ 8 := by omega
    go_enter Try.func24, Try.ntmps24
    go_wp2_with (first
      | (go_at_call 48; with_reducible refine (within_to H1.out _).mono ?_; rintro e w' ⟨rfl, rfl⟩)
      | (go_at_call 48; with_reducible refine (within_to H2.out _).mono ?_; rintro e w' ⟨rfl, rfl⟩)
      | (go_at_call 48; with_reducible refine (within_to H3.out _).mono ?_; rintro e w' ⟨rfl, rfl⟩))
    all_goals
      clear H1 H2 H3
      go_loopw [3, 35] (fun le i wr => ∃ (j : Nat) (lst : Int), j ≤ k ∧ i = .int .i64 j ∧ le = .int .i64 lst ∧ 1 ≤ lst ∧ lst ≤ 1073741824 ∧ Hid (Sd.chain n lst (l.drop j) = v) ∧ wr.heap[w.heap.size]? = some (.cells #[.int .i64 n, .slice A k c, .int .i64 ww, .int .i64 cc] seT) ∧ Below w.heap.size w wr ∧ Below V.heap.size V wr) (fun _ i _ => k - (intOf i).toNat)
      case atStart => exact ⟨0, m, Nat.zero_le _, rfl, (by have := HM.out; congr 1; omega), by have := HM.out; omega, by have := HM.out; omega, HV, HR.out, BV, Below.refl _ _⟩
      case round =>
        obtain ⟨j, lst, hj, rfl, rfl, hl1, hl2, HC, hR, hB, hBV⟩ := hrel
        clear K1
        have K1 := row_cells hR
        have K2 := fun (o : Obj) (i : Nat) => (World.cell?_alloc_lt wr o ⟨w.heap.size, i, none⟩ (row_lt hR)).trans (K1 i)
        have HR2 := Lib.hid hR
        clear hR
        by_cases hjk : j < k
        · obtain ⟨b, off, rfl, hb, c0, c1, c2, c3, c4, c5, c6⟩ := (Fls.below HN.out hBV).at (i := j) (by rw [Hn.out]; exact hjk)
          have HD := Lib.hid (Sd.chain_drop n lst l j (by rw [Hn.out]; exact hjk))
          generalize l.getD j .zero = f at c0 c1 c2 c3 c4 c5 c6 HD
          obtain ⟨fq, fu, fv, fs, fc, fa, ft⟩ := f
          simp only at c0 c1 c2 c3 c4 c5 c6
          have HD := HD.out
          rw [HC.out] at HD
          generalize hd : decide (Fl.ok n ⟨fq, fu, fv, fs, fc, fa, ft⟩ lst) = d at HD
          have hdp : (lst ≤ fq ∧ fq ≤ n - 1 ∧ 1 ≤ ft ∧ ft ≤ 1073741824 ∧ 0 ≤ fa ∧ fa ≤ 1099511627776) ↔ d = true := by rw [← hd, decide_eq_true_iff]; exact Iff.rfl
          have HDP := Lib.hid hdp
          clear hd hdp
          obtain ⟨r1, h1⟩ : ∃ r, decide (lst ≤ fq ∧ fq ≤ n - 1) = r := ⟨_, rfl⟩
          obtain ⟨r2, h2⟩ : ∃ r, decide (1 ≤ ft ∧ ft ≤ 1073741824) = r := ⟨_, rfl⟩
          obtain ⟨r3, h3⟩ : ∃ r, decide (0 ≤ fa ∧ fa ≤ 1099511627776) = r := ⟨_, rfl⟩
          have H1 := Lib.hid h1
          have H2 := Lib.hid h2
          have H3 := Lib.hid h3
          have HDD := Lib.hid HD
          have q1 : (j : Int) < (k : Int) := by omega
          have q0 : (0 : Int) ≤ (j : Int) := by omega
          have BW2 := Lib.hid (hB.alloc hB.size (.cells #[.int .i64 fq, .int .i64 fu, .int .i64 fv, .int .i64 fs, .int .i64 fc, .int .i64 fa, .int .i64 ft] flT))
          have BV2 := Lib.hid (hBV.alloc hBV.size (.cells #[.int .i64 fq, .int .i64 fu, .int .i64 fv, .int .i64 fs, .int .i64 fc, .int .i64 fa, .int .i64 ft] flT))
          clear HD h1 h2 h3 hB hBV
          cases r1
          · have := HDD.out
            rw [Bool.eq_false_iff.2 (fun h => (of_decide_eq_false H1.out) ⟨(HDP.out.2 h).1, (HDP.out.2 h).2.1⟩), Bool.false_and] at this
            subst this
            go_wp2_with (first
              | (go_at_call 48; with_reducible refine (within_to H1.out _).mono ?_; rintro e w' ⟨rfl, rfl⟩))
            go_ret
            exact ⟨rfl, BW2.out⟩
          cases r2
          · have := HDD.out
            rw [Bool.eq_false_iff.2 (fun h => (of_decide_eq_false H2.out) ⟨(HDP.out.2 h).2.2.1, (HDP.out.2 h).2.2.2.1⟩), Bool.false_and] at this
            subst this
            go_wp2_with (first
              | (go_at_call 48; with_reducible refine (within_to H1.out _).mono ?_; rintro e w' ⟨rfl, rfl⟩)
              | (go_at_call 48; with_reducible refine (within_to H2.out _).mono ?_; rintro e w' ⟨rfl, rfl⟩))
            go_ret
            exact ⟨rfl, BW2.out⟩
          cases r3
          · have := HDD.out
            rw [Bool.eq_false_iff.2 (fun h => (of_decide_eq_false H3.out) ⟨(HDP.out.2 h).2.2.2.2.1, (HDP.out.2 h).2.2.2.2.2⟩), Bool.false_and] at this
            subst this
            go_wp2_with (first
              | (go_at_call 48; with_reducible refine (within_to H1.out _).mono ?_; rintro e w' ⟨rfl, rfl⟩)
              | (go_at_call 48; with_reducible refine (within_to H2.out _).mono ?_; rintro e w' ⟨rfl, rfl⟩)
              | (go_at_call 48; with_reducible refine (within_to H3.out _).mono ?_; rintro e w' ⟨rfl, rfl⟩))
            go_ret
            exact ⟨rfl, BW2.out⟩
          · have := HDD.out
            have g1 := of_decide_eq_true H1.out
            have g2 := of_decide_eq_true H2.out
            have g3 := of_decide_eq_true H3.out
            rw [HDP.out.1 ⟨g1.1, g1.2, g2.1, g2.2, g3.1, g3.2⟩, Bool.true_and] at this
            have HN2 := Lib.hid this.symm
            have e3 : IntKind.i64.wrap (fq + 1) = fq + 1 := IntWalk.i64_in _ (by omega)
            clear this g2 g3
            go_wp2_with (first
              | (go_at_call 48; with_reducible refine (within_to H1.out _).mono ?_; rintro e w' ⟨rfl, rfl⟩)
              | (go_at_call 48; with_reducible refine (within_to H2.out _).mono ?_; rintro e w' ⟨rfl, rfl⟩)
              | (go_at_call 48; with_reducible refine (within_to H3.out _).mono ?_; rintro e w' ⟨rfl, rfl⟩))
            go_roundw
            case rel => exact ⟨j + 1, fq + 1, by omega, by go_num, rfl, by omega, by omega, HN2, row_kept HR2.out ((Below.refl _ _).alloc (Nat.le_refl _) _) (row_lt HR2.out), BW2.out, BV2.out⟩
            case measure => simp [intOf]; omega
        · obtain rfl : j = k := by omega
          have : Sd.chain n lst [] = v := by
            have := HC.out
            rw [List.drop_eq_nil_of_le (by rw [Hn.out]; exact Nat.le_refl _)] at this
            exact this
          obtain rfl : true = v := this
          go_wp2
          go_ret
          exact ⟨rfl, hB⟩
end Go.Proofs.Ytiecebncnflpiaa
