/- Numbers as bytes: Put, by the program. -/
import Derived.Test.YtnfdfnkhjlkdhaaRows
import Derived.Test.YtnfdfnkhjlkdhaaMem4
import Derived.Test.YtnfdfnkhjlkdhaaFieldMath
import Derived.Test.YtnfdfnkhjlkdhaaFieldMath2
import Derived.WalkKit
import Derived.ProofKit
import Derived.OpenShut
import Derived.Outline
import Derived.Lib.Hide
import Derived.Test.YtnfdfnkhjlkdhaaTail
namespace Go.Proofs.Ytnfdfnkhjlkdhaa
open Go.ChangeShapes Go.WideShapes Go.ChangeAt Go.RowKit
theorem info8 : (Try.prog.info? 5).map (fun i => (i.zero, i.size, i.bytes)) = some (some (.int .u8 0), 1, 1) := by kernel_rfl
theorem clone_any (w : World) (A : Option Addr) (n c : Nat) (bs : List Int) (hn : bs.length = n) (hN : Nums .u8 w A bs) (hlen : n ≤ 1000000) :
    Calls Try.prog 37 #[.slice A n c] w fun e w' => ∃ A' c', e = .returned (.slice A' n c') ∧ OwnN .u8 5 w.heap.size w' A' c' bs ∧ Below w.heap.size w w' := by
  obtain ⟨i0, hi, hz0, hz1, hz2⟩ := info_parts info8
  have HI := Lib.hid (And.intro hi (And.intro hz0 (And.intro hz1 hz2)))
  clear hi hz0 hz1 hz2
  have Hn := Lib.hid hn
  have HN := Lib.hid hN
  clear hn hN
  cases A with
  | none =>
    obtain rfl : bs = [] := by
      rcases HN.out with h | ⟨b, off, h, _⟩
      · exact h
      · cases h
    obtain rfl : n = 0 := by have := Hn.out; simpa using this.symm
    have hq : (binOp .eql 26 (.slice none 0 c) (.slice none 0 0)).run Try.prog w = .ok (.bool true) w := by kernel_rfl
    go_enter Try.func37, Try.ntmps37
    go_wp2
    go_ret
    exact ⟨none, 0, rfl, OwnN.nil (Nat.le_refl _), Below.refl _ _⟩
  | some a =>
    have hq : (binOp .eql 26 (.slice (some a) n c) (.slice none 0 0)).run Try.prog w = .ok (.bool false) w := by kernel_rfl
    go_enter Try.func37, Try.ntmps37
    go_wp2_with (first
      | (at_builtin; refine wpList_append_row rfl _ _ 26 rfl i0 1 Try.underlying26 HI.out.1 HI.out.2.1 HI.out.2.2.1 HI.out.2.2.2 (by decide) 0 rfl rfl (OwnN.empty (base := w.heap.size) (Nat.le_refl _)) a n _ bs rfl Hn.out (HN.out.alloc _) (by simp <;> omega) w.heap.size w (Nat.le_refl _) ((Below.refl _ _).alloc (Nat.le_refl _) _) ?_; intro A4 c4 w4 hO4 hB4)
      )
    go_ret
    exact ⟨A4, c4, by simp, by simpa using hO4, hB4⟩

theorem bounded_any (s : Int) (w : World) :
    Calls Try.prog 38 #[.int .i64 s] w fun e w' => e = .returned (.int .i64 (min (max s 1) 7)) ∧ w = w' := by
  go_enter Try.func38, Try.ntmps38
  go_wp2
  all_goals (go_ret; exact ⟨ret_int (by omega), rfl⟩)

set_option maxHeartbeats 2000000 in
theorem put_any (w : World) (A : Option Addr) (n c : Nat) (bs : List Int) (hn : bs.length = n) (hN : Nums .u8 w A bs) (hlen : n ≤ 1000000) (x s : Int) (wx : -9223372036854775808 ≤ x ∧ x ≤ 9223372036854775807) (k : Nat) (hk : min (max s 1) 7 = (k : Int)) :
    Calls Try.prog 19 #[.slice A n c, .int .i64 x, .int .i64 s] w fun e w' => ∃ A' c', e = .returned (.slice A' (n + k) c') ∧ OwnN .u8 5 w.heap.size w' A' c' (bs ++ lay x k) ∧ Below w.heap.size w w' := by
  obtain ⟨i0, hi, hz0, hz1, hz2⟩ := info_parts info8
  have HI := Lib.hid (And.intro hi (And.intro hz0 (And.intro hz1 hz2)))
  clear hi hz0 hz1 hz2
  have Hk := Lib.hid hk
  have k1 : 1 ≤ k := by omega
  have k7 : k ≤ 7 := by omega
  clear hk
  go_enter Try.func19, Try.ntmps19
  go_wp2_with (first
    | (go_at_call 37; refine (clone_any _ A n c bs hn hN hlen).mono ?_; rintro e w1 ⟨A1, c1, rfl, hO1, hB1⟩)
    | (go_at_call 38; refine (bounded_any _ _).mono ?_; rintro e w' ⟨rfl, rfl⟩; rw [Hk.out])
    )
  have HO1 := Lib.hid hO1
  clear hO1 hN
  go_loopw [7, 8] (fun v i wr => ∃ (j : Nat) (A' : Option Addr) (c' : Nat), j ≤ k ∧ i = .int .i64 ((k : Int) - 1 - j) ∧ v = .slice A' (n + j) c' ∧ OwnN .u8 5 w.heap.size wr A' c' (bs ++ (lay x k).take j) ∧ Below w.heap.size w wr) (fun _ i _ => (intOf i + 1).toNat)
  case atStart => exact ⟨0, A1, c1, Nat.zero_le _, by simp, rfl, by simpa using HO1.out, hB1⟩
  case round =>
    obtain ⟨j, A', c', hj, rfl, rfl, hO, hB⟩ := hrel
    have HO := Lib.hid hO
    clear hO hB1
    by_cases hjk : j < k
    · obtain ⟨t, ht⟩ : ∃ t : Nat, (k : Int) - 1 - j = t := ⟨k - 1 - j, by omega⟩
      rw [ht]
      have Ht := Lib.hid ht
      have htk : t = 0 ∨ t = 1 ∨ t = 2 ∨ t = 3 ∨ t = 4 ∨ t = 5 ∨ t = 6 := by omega
      have Hl := Lib.hid (lay_snoc x k j t hjk ht)
      clear ht
      rcases htk with rfl | rfl | rfl | rfl | rfl | rfl | rfl
      all_goals
        have Hlen := Lib.hid (show (bs ++ (lay x k).take j).length = n + j by rw [List.length_append, List.length_take, lay_len, hn]; omega)
        go_wp2_with (first
          | (at_builtin; refine wpList_append_num rfl _ _ 26 rfl i0 1 Try.underlying26 HI.out.1 HI.out.2.1 HI.out.2.2.1 HI.out.2.2.2 (by decide) _ Hlen.out rfl (HO.out.alloc _) ⟨wr.heap.size, 0, none⟩ _ _ rfl (alloc_cell0 _ _ _ _ rfl) (by rw [Hlen.out]; omega) w.heap.size w (Nat.le_refl _) (hB.alloc hB.size _) ?_; intro A2 c2 w2 hO2 hb2)
          )
        go_roundw
        case rel => exact ⟨j + 1, A2, c2, by omega, by have := Ht.out; refine congrArg _ ?_; omega, rfl, by rw [Hl.out, ← List.append_assoc]; simpa [byt] using hO2, hb2⟩
        case measure => simp [intOf]
    · obtain rfl : j = k := by omega
      have e : (lay x j).take j = lay x j := List.take_of_length_le (by rw [lay_len]; exact Nat.le_refl _)
      have HE := Lib.hid e
      clear e
      go_wp2
      go_ret
      exact ⟨A', c', rfl, by have := HO.out; rwa [HE.out] at this, hB⟩
end Go.Proofs.Ytnfdfnkhjlkdhaa
