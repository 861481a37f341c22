/- What the document's own answers of layer 14 come to. -/
import Derived.Test.YtljenpfccmfnbaaDet5
import Derived.Test.YtljenpfccmfnbaaDetMath3
import Derived.Test.YtljenpfccmfnbaaSatRef
import Derived.Test.YtljenpfccmfnbaaRecs2
import Derived.Test.YtljenpfccmfnbaaMem3
import Derived.Deep.RegionLaw
namespace Go.Proofs.Ytljenpfccmfnbaa
open Go.ChangeShapes Go.WideShapes Go.ChangeAt Go.RowKit

theorem rstart_any (now : Int) (w : World) :
    Calls Try.prog 14 #[.int .i64 now] w fun e w' => ∃ A c, e = .returned (.slice A 1 c) ∧ OwnB w.heap.size w' A 1 c [(0, Sat.clamp now)] ∧ Below w.heap.size w w' := by
  have z0 : ∀ W, (zeroValue beT).run Try.prog W = .ok (.agg #[.int .i64 0, .int .i64 0]) W := fun W => by kernel_rfl
  go_enter Try.func14, Try.ntmps14
  go_wp2_with (go_at_call 20; refine (rclamp_any _ _).mono ?_; rintro e w' ⟨rfl, rfl⟩)
  go_ret
  exact ⟨_, _, rfl, OwnR.lit _ (Nat.le_refl _) (by decide) rfl rfl, (Below.refl _ _).alloc (Nat.le_refl _) _⟩

set_option maxRecDepth 10000 in
set_option maxHeartbeats 8000000 in
theorem rright_any (w : World) (A : Option Addr) (n c : Nat) (l : Det.Row) (hn : l.length = n) (hN : Beats w A l) (hlen : n ≤ 9223372036854775807) :
    Calls Try.prog 11 #[.slice A n c] w fun e w' => e = .returned (.bool (Det.right l)) ∧ Below w.heap.size w w' := by
  by_cases h0 : n < 1 ∨ 8 < n
  · have hr : Det.right l = false := by unfold Det.right; rw [if_pos (by omega)]
    rw [hr]
    clear hr hn hN
    have h1 : n < 1 ∨ (1 ≤ n ∧ 8 < n) := by omega
    clear h0
    rcases h1 with h | ⟨h1, h⟩
    · obtain rfl : n = 0 := by omega
      go_enter Try.func11, Try.ntmps11
      go_wp2
      go_ret
      exact ⟨rfl, Below.refl _ _⟩
    · have h1' : (1 : Int) ≤ n := by omega
      have h' : (8 : Int) < n := by omega
      go_enter Try.func11, Try.ntmps11
      go_wp2
      go_ret
      exact ⟨rfl, Below.refl _ _⟩
  · have hr : Det.right l = Det.rightFrom 0 0 (l.drop 0) := by unfold Det.right; rw [if_neg (by omega)]; rfl
    obtain ⟨R, hR⟩ : ∃ R, R = Det.right l := ⟨_, rfl⟩
    rw [← hR]
    rw [← hR] at hr
    have HR := Lib.hid hr
    have Hn := Lib.hid hn
    have HN := Lib.hid (hN.at (by omega))
    have h1 : (1 : Int) ≤ n := by omega
    have h8 : (n : Int) ≤ 8 := by omega
    clear hn hN hr hR h0
    go_enter Try.func11, Try.ntmps11
    go_wp2
    go_loopw [3] (fun i wr => ∃ (k : Nat) (s t : Int), k ≤ n ∧ i = .int .i64 k ∧ Below w.heap.size w wr ∧ R = Det.rightFrom s t (l.drop k) ∧ ((k = 0 ∧ s = 0 ∧ t = 0) ∨ (0 < k ∧ s = (l.getD (k - 1) (0, 0)).1 + 1 ∧ t = (l.getD (k - 1) (0, 0)).2 ∧ 1 ≤ s ∧ 0 ≤ t ∧ s ≤ 1073741825))) (fun i _ => n - (intOf i).toNat)
    case atStart => exact ⟨0, 0, 0, Nat.zero_le _, rfl, Below.refl _ _, HR.out, Or.inl ⟨rfl, rfl, rfl⟩⟩
    case round =>
      obtain ⟨k, s, t, hk, rfl, hB, hRk, hst⟩ := hrel
      by_cases hkn : k < n
      · obtain ⟨b, off, rfl, hb, hc⟩ := HN.out
        obtain ⟨g0, g1⟩ := hc k (by rw [Hn.out]; exact hkn)
        have c0 := (hB.cell (p := ⟨b, off + k * 2, none⟩) hb).trans g0
        have c1 := (hB.cell (p := ⟨b, off + k * 2 + 1, none⟩) hb).trans g1
        rw [Det.right_step l k (by rw [Hn.out]; exact hkn)] at hRk
        have Hnext := Lib.hid (show ∀ p, p = l.getD k (0, 0) → (p.1 + 1 = (l.getD (k + 1 - 1) (0, 0)).1 + 1 ∧ p.2 = (l.getD (k + 1 - 1) (0, 0)).2) from fun p hp => by rw [hp, Nat.add_sub_cancel]; exact ⟨rfl, rfl⟩)
        obtain ⟨p, hp⟩ : ∃ p, p = l.getD k (0, 0) := ⟨_, rfl⟩
        have Hp := Lib.hid hp
        rw [← hp] at c0 c1 hRk
        have HRk := Lib.hid hRk
        have q1 : (k : Int) < (n : Int) := by omega
        have q0 : (0 : Int) ≤ (k : Int) := by omega
        clear g0 g1 hRk hp
        rcases hst with ⟨rfl, rfl, rfl⟩ | ⟨hk0, hs, ht, hs1, ht0, hs2⟩
        · clear hc
          rw [Nat.zero_mul, Nat.add_zero] at c0 c1
          have k0 : decide ((0 : Int) < ((0 : Nat) : Int)) = false := by decide
          have hcase : (p.1 < 0) ∨ (0 ≤ p.1 ∧ 1073741824 < p.1) ∨ (0 ≤ p.1 ∧ p.1 ≤ 1073741824 ∧ p.2 < 0) ∨ (0 ≤ p.1 ∧ p.1 ≤ 1073741824 ∧ 0 ≤ p.2 ∧ 1099511627776 < p.2) ∨ (0 ≤ p.1 ∧ p.1 ≤ 1073741824 ∧ 0 ≤ p.2 ∧ p.2 ≤ 1099511627776) := by omega
          have HF := Lib.hid (fun (h : p.1 < 0 ∨ 1073741824 < p.1 ∨ p.2 < 0 ∨ 1099511627776 < p.2) => show R = false by rw [HRk.out, if_pos h])
          rcases hcase with a | ⟨a, b⟩ | ⟨a, b, c⟩ | ⟨a, b, c, d⟩ | ⟨a, b, c, d⟩
          · have f := Lib.hid (HF.out (by omega))
            have u1 : decide (p.1 < 0) = true := decide_eq_true a
            go_wp2
            go_quiet (fail)
            go_wp2
            go_ret
            exact ⟨ret_bool f.out.symm, below_drewN hB _⟩
          · have f := Lib.hid (HF.out (by omega))
            have u1 : decide (p.1 < 0) = false := decide_eq_false (by omega)
            have u2 : decide (1073741824 < p.1) = true := decide_eq_true b
            go_wp2
            go_quiet (fail)
            go_wp2
            go_ret
            exact ⟨ret_bool f.out.symm, below_drewN hB _⟩
          · have f := Lib.hid (HF.out (by omega))
            have u1 : decide (p.1 < 0) = false := decide_eq_false (by omega)
            have u2 : decide (1073741824 < p.1) = false := decide_eq_false (by omega)
            have u3 : decide (p.2 < 0) = true := decide_eq_true c
            go_wp2
            go_quiet (fail)
            go_wp2
            go_ret
            exact ⟨ret_bool f.out.symm, below_drewN hB _⟩
          · have f := Lib.hid (HF.out (by omega))
            have u1 : decide (p.1 < 0) = false := decide_eq_false (by omega)
            have u2 : decide (1073741824 < p.1) = false := decide_eq_false (by omega)
            have u3 : decide (p.2 < 0) = false := decide_eq_false (by omega)
            have u4 : decide (1099511627776 < p.2) = true := decide_eq_true d
            go_wp2
            go_quiet (fail)
            go_wp2
            go_ret
            exact ⟨ret_bool f.out.symm, below_drewN hB _⟩
          · have f := Lib.hid (show R = Det.rightFrom (p.1 + 1) p.2 (l.drop (0 + 1)) by rw [HRk.out, if_neg (by omega)])
            have u1 : decide (p.1 < 0) = false := decide_eq_false (by omega)
            have u2 : decide (1073741824 < p.1) = false := decide_eq_false (by omega)
            have u3 : decide (p.2 < 0) = false := decide_eq_false (by omega)
            have u4 : decide (1099511627776 < p.2) = false := decide_eq_false (by omega)
            go_wp2
            go_quiet (fail)
            go_wp2
            go_roundw
            case rel => exact ⟨0 + 1, p.1 + 1, p.2, by omega, by go_num, below_drewN hB _, f.out, Or.inr ⟨by omega, (Hnext.out p Hp.out).1, (Hnext.out p Hp.out).2, by omega, by omega, by omega⟩⟩
            case measure => simp [intOf]; omega
        · obtain ⟨g2, g3⟩ := hc (k - 1) (by rw [Hn.out]; omega)
          obtain ⟨j, rfl⟩ : ∃ j, k = j + 1 := ⟨k - 1, by omega⟩
          rw [Nat.add_sub_cancel] at g2 g3 hs ht
          have c2 := (hB.cell (p := ⟨b, off + j * 2, none⟩) hb).trans g2
          have c3 := (hB.cell (p := ⟨b, off + j * 2 + 1, none⟩) hb).trans g3
          generalize l.getD j (0, 0) = q at c2 c3 hs ht
          have k0 : decide ((0 : Int) < ((j + 1 : Nat) : Int)) = true := decide_eq_true (by omega)
          have e1 : IntKind.i64.wrap (((j + 1 : Nat) : Int) - 1) = (j : Int) := by rw [IntWalk.i64_in _ (by omega)]; omega
          have q5 : (j : Int) < (n : Int) := by omega
          have q6 : (0 : Int) ≤ (j : Int) := by omega
          have hcase : (p.1 < 0) ∨ (0 ≤ p.1 ∧ 1073741824 < p.1) ∨ (0 ≤ p.1 ∧ p.1 ≤ 1073741824 ∧ p.2 < 0) ∨ (0 ≤ p.1 ∧ p.1 ≤ 1073741824 ∧ 0 ≤ p.2 ∧ 1099511627776 < p.2) ∨ (0 ≤ p.1 ∧ p.1 ≤ 1073741824 ∧ 0 ≤ p.2 ∧ p.2 ≤ 1099511627776 ∧ p.1 ≤ q.1) ∨ (0 ≤ p.1 ∧ p.1 ≤ 1073741824 ∧ 0 ≤ p.2 ∧ p.2 ≤ 1099511627776 ∧ q.1 < p.1 ∧ p.2 < q.2) ∨ (0 ≤ p.1 ∧ p.1 ≤ 1073741824 ∧ 0 ≤ p.2 ∧ p.2 ≤ 1099511627776 ∧ q.1 < p.1 ∧ q.2 ≤ p.2) := by omega
          have HF := Lib.hid (fun (h : p.1 < s ∨ 1073741824 < p.1 ∨ p.2 < t ∨ 1099511627776 < p.2) => show R = false by rw [HRk.out, if_pos h])
          have HT := Lib.hid (fun (h : ¬ (p.1 < s ∨ 1073741824 < p.1 ∨ p.2 < t ∨ 1099511627776 < p.2)) => show R = Det.rightFrom (p.1 + 1) p.2 (l.drop (j + 1 + 1)) by rw [HRk.out, if_neg h])
          have HS := Lib.hid (And.intro hs ht)
          clear hc g2 g3 hs ht hk0
          rcases hcase with a | ⟨a, b⟩ | ⟨a, b, c⟩ | ⟨a, b, c, d⟩ | ⟨a, b, c, d, e⟩ | ⟨a, b, c, d, e, f⟩ | ⟨a, b, c, d, e, f⟩
          · have f := Lib.hid (HF.out (by omega))
            have u1 : decide (p.1 < 0) = true := decide_eq_true a
            go_wp2
            go_quiet (fail)
            go_wp2
            go_ret
            exact ⟨ret_bool f.out.symm, below_drewN hB _⟩
          · have f := Lib.hid (HF.out (by omega))
            have u1 : decide (p.1 < 0) = false := decide_eq_false (by omega)
            have u2 : decide (1073741824 < p.1) = true := decide_eq_true b
            go_wp2
            go_quiet (fail)
            go_wp2
            go_ret
            exact ⟨ret_bool f.out.symm, below_drewN hB _⟩
          · have f := Lib.hid (HF.out (by omega))
            have u1 : decide (p.1 < 0) = false := decide_eq_false (by omega)
            have u2 : decide (1073741824 < p.1) = false := decide_eq_false (by omega)
            have u3 : decide (p.2 < 0) = true := decide_eq_true c
            go_wp2
            go_quiet (fail)
            go_wp2
            go_ret
            exact ⟨ret_bool f.out.symm, below_drewN hB _⟩
          · have f := Lib.hid (HF.out (by omega))
            have u1 : decide (p.1 < 0) = false := decide_eq_false (by omega)
            have u2 : decide (1073741824 < p.1) = false := decide_eq_false (by omega)
            have u3 : decide (p.2 < 0) = false := decide_eq_false (by omega)
            have u4 : decide (1099511627776 < p.2) = true := decide_eq_true d
            go_wp2
            go_quiet (fail)
            go_wp2
            go_ret
            exact ⟨ret_bool f.out.symm, below_drewN hB _⟩
          · have f := Lib.hid (HF.out (by have := HS.out; omega))
            have u1 : decide (p.1 < 0) = false := decide_eq_false (by omega)
            have u2 : decide (1073741824 < p.1) = false := decide_eq_false (by omega)
            have u3 : decide (p.2 < 0) = false := decide_eq_false (by omega)
            have u4 : decide (1099511627776 < p.2) = false := decide_eq_false (by omega)
            have u5 : decide (p.1 ≤ q.1) = true := decide_eq_true (by omega)
            go_wp2
            go_quiet (fail)
            go_wp2
            go_ret
            exact ⟨ret_bool f.out.symm, below_drewN hB _⟩
          · have f' := Lib.hid (HF.out (by have := HS.out; omega))
            have u1 : decide (p.1 < 0) = false := decide_eq_false (by omega)
            have u2 : decide (1073741824 < p.1) = false := decide_eq_false (by omega)
            have u3 : decide (p.2 < 0) = false := decide_eq_false (by omega)
            have u4 : decide (1099511627776 < p.2) = false := decide_eq_false (by omega)
            have u5 : decide (p.1 ≤ q.1) = false := decide_eq_false (by omega)
            have u6 : decide (p.2 < q.2) = true := decide_eq_true (by omega)
            go_wp2
            go_quiet (fail)
            go_wp2
            go_ret
            exact ⟨ret_bool f'.out.symm, below_drewN hB _⟩
          · have f' := Lib.hid (HT.out (by have := HS.out; omega))
            have u1 : decide (p.1 < 0) = false := decide_eq_false (by omega)
            have u2 : decide (1073741824 < p.1) = false := decide_eq_false (by omega)
            have u3 : decide (p.2 < 0) = false := decide_eq_false (by omega)
            have u4 : decide (1099511627776 < p.2) = false := decide_eq_false (by omega)
            have u5 : decide (p.1 ≤ q.1) = false := decide_eq_false (by omega)
            have u6 : decide (p.2 < q.2) = false := decide_eq_false (by omega)
            go_wp2
            go_quiet (fail)
            go_wp2
            go_roundw
            case rel => exact ⟨j + 1 + 1, p.1 + 1, p.2, by omega, by go_num, below_drewN hB _, f'.out, Or.inr ⟨by omega, (Hnext.out p Hp.out).1, (Hnext.out p Hp.out).2, by omega, by omega, by omega⟩⟩
            case measure => simp [intOf]; omega
      · obtain rfl : k = n := by omega
        have e : R = true := by rw [hRk, List.drop_of_length_le (by rw [Hn.out]; exact Nat.le_refl _)]; rfl
        clear hRk
        go_wp2
        go_ret
        exact ⟨ret_bool e.symm, hB⟩
end Go.Proofs.Ytljenpfccmfnbaa
