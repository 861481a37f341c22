/- SatSums holds for all numbers, cut anywhere: a sum is that of its parts' sums. No condition. -/
import Derived.Test.YtefncobjndhhdaaSat
import Derived.Deep.QuietTactic
import Derived.BigQuiet
namespace Go.Proofs.Ytefncobjndhhdaa.satSums
open Go.ChangeShapes Go.WideShapes Go.ChangeAt Go.RowKit

theorem walk (w : World)
    (A : Option Addr) (n cap : Nat) (zs : List Int) (hl : n ≤ cap) (hm : cap ≤ maxLen) (hn : zs.length = n) (hN : Nums .i64 w A zs) (hw : ∀ z ∈ zs, (Lit.int .i64 z).wf = true)
    (k : Int) (wk : (Lit.int .i64 k).wf = true) :
    Calls Try.prog 9 #[.slice A n cap, .int .i64 k] w fun e w' => e = .returned (.bool true) ∧ Below w.heap.size w w' := by
  clear wk hw
  have Hn := Lib.hid hn
  have HN := Lib.hid hN
  unfold maxLen at hm
  clear hn hN
  by_cases h : 1000 < n
  · go_enter Try.func9, Try.ntmps9
    go_wp2_with (first
      | (go_at_call 11; refine (small_any _).mono ?_; rintro e w' ⟨rfl, hb⟩)
      | (go_at_call 12; refine (clamp_any _ _).mono ?_; rintro e w' ⟨rfl, rfl⟩)
      | (go_at_call 14; refine (add_any _ _ _).mono ?_; rintro e w' ⟨rfl, rfl⟩)
      | (go_at_call 16; refine (sub_any _ _ _).mono ?_; rintro e w' ⟨rfl, rfl⟩)
      | (go_at_call 18; refine (mul_any _ _ _).mono ?_; rintro e w' ⟨rfl, rfl⟩)
      )
    go_ret
    exact ⟨rfl, hb⟩
  · by_cases h1 : k < 0
    · go_enter Try.func9, Try.ntmps9
      go_wp2_with (first
        | (go_at_call 11; refine (small_any _).mono ?_; rintro e w' ⟨rfl, hb⟩)
        | (go_at_call 12; refine (clamp_any _ _).mono ?_; rintro e w' ⟨rfl, rfl⟩)
        | (go_at_call 14; refine (add_any _ _ _).mono ?_; rintro e w' ⟨rfl, rfl⟩)
        | (go_at_call 16; refine (sub_any _ _ _).mono ?_; rintro e w' ⟨rfl, rfl⟩)
        | (go_at_call 18; refine (mul_any _ _ _).mono ?_; rintro e w' ⟨rfl, rfl⟩)
        )
      go_ret
      exact ⟨rfl, hb⟩
    · by_cases h2 : (n : Int) < k
      · go_enter Try.func9, Try.ntmps9
        go_wp2_with (first
          | (go_at_call 11; refine (small_any _).mono ?_; rintro e w' ⟨rfl, hb⟩)
          | (go_at_call 12; refine (clamp_any _ _).mono ?_; rintro e w' ⟨rfl, rfl⟩)
          | (go_at_call 14; refine (add_any _ _ _).mono ?_; rintro e w' ⟨rfl, rfl⟩)
          | (go_at_call 16; refine (sub_any _ _ _).mono ?_; rintro e w' ⟨rfl, rfl⟩)
          | (go_at_call 18; refine (mul_any _ _ _).mono ?_; rintro e w' ⟨rfl, rfl⟩)
          )
        go_ret
        exact ⟨rfl, hb⟩
      · obtain ⟨j, rfl⟩ := Int.eq_ofNat_of_zero_le (show 0 ≤ k by omega)
        have hj : j ≤ n := by omega
        have hjc : (j : Int) ≤ cap := by omega
        have e1 : (Sat.sum zs == Sat.add (Sat.sum (zs.take j)) (Sat.sum (zs.drop j))) = true := by
          rw [← Sat.sum_append, List.take_append_drop]; exact beq_self_eq_true _
        have e2 := Sat.mean_le (zs.take j)
        go_enter Try.func9, Try.ntmps9
        go_wp2_with (first
          | (go_at_call 11; refine (small_any _).mono ?_; rintro e w' ⟨rfl, hb⟩)
          | (go_at_call 12; refine (clamp_any _ _).mono ?_; rintro e w' ⟨rfl, rfl⟩)
          | (go_at_call 14; refine (add_any _ _ _).mono ?_; rintro e w' ⟨rfl, rfl⟩)
          | (go_at_call 16; refine (sub_any _ _ _).mono ?_; rintro e w' ⟨rfl, rfl⟩)
          | (go_at_call 18; refine (mul_any _ _ _).mono ?_; rintro e w' ⟨rfl, rfl⟩)
          )
        go_quiet ((first
          | (go_at_call 20; exact quiet_left (sum_any _ _ _ zs _ Hn.out (by omega) (by exact (HN.out.below hb).drewN _)))
          | (go_at_call 20; exact quiet_left (sum_any _ _ _ (zs.take j) _ (by rw [List.length_take, Hn.out]; omega) (by omega) (by exact ((HN.out.below hb).drewN _).take j)))
          | (go_at_call 20; exact quiet_left (sum_any _ _ _ (zs.drop j) _ (by rw [List.length_drop, Hn.out]) (by omega) (by exact ((HN.out.below hb).drewN _).drop j cap (by rw [Hn.out]; exact hj) (by rw [Hn.out]; exact hl))))
          | (go_at_call 22; exact quiet_left (mean_any _ _ _ (zs.take j) _ (by rw [List.length_take, Hn.out]; omega) (by omega) (by exact ((HN.out.below hb).drewN _).take j)))
          | (go_at_call 14; exact quiet_left (add_any _ _ _))
          ))
        go_wp2
        all_goals (go_ret; exact ⟨rfl, below_drewN hb _⟩)

theorem own : ownKnob Try.prog.godebug = none := by kernel_rfl
theorem laid : laidOutB Try.prog = true := by kernel_rfl

set_option maxRecDepth 100000 in
theorem lifted (os : Os) (started : os.Started) (H : Type) (enc : TypeId × Value → H) :
    ReturnsInHanded {} Try.checked os 9 .any (Rows.satSumsSpec.pre6 enc Try.prog Try.f9 Rows.satSumsRow.domain false) (Rows.satSumsSpec.post enc Try.prog Try.f9 false true false false) := by
  refine law_lifted (C := Try.checked) (B := 4) own started (by kernel_rfl) Try.func9
    (ChangeSpec.witness6 (enc := enc) (C := Try.checked) false ⟨#[], #[.slice none 0 0, .int .i64 0], []⟩ 8 (by kernel_rfl) (by kernel_rfl) (by kernel_rfl) (by kernel_rfl))
    rfl rfl Try.underlying4 laid (of_decide_eq_true (by kernel_rfl)) ?_ ?_
  · intro ds hl
    rw [Try.params9] at hl
    match ds, hl with
    | [d0, d1], _ => rfl
  · intro W base args ds ps hval hA hlt hz
    rw [Try.params9] at hA hval
    obtain ⟨v0, vs0, d0, ds0, p0, q0, hargs, rfl, rfl, h0, r0⟩ := trodAll_cons hA
    obtain ⟨v1, vs1, d1, ds1, p1, q1, rfl, rfl, rfl, h1, r1⟩ := trodAll_cons r0
    obtain ⟨rfl, rfl, rfl⟩ := trodAll_nil r1
    obtain rfl : args = #[v0, v1] := by cases args; simp_all
    obtain ⟨A0, n0, cap0, zs0, rfl, hl0, hm0, hn0, hN0, hw0⟩ := open_nums Try.underlying22 Try.underlying3 (by kernel_rfl) (hval 0 22 v0 rfl rfl) h0
    obtain ⟨a1, rfl, rfl, rfl, w1⟩ := open_int Try.underlying3 (hval 1 3 v1 rfl rfl) h1
    exact walk W A0 n0 cap0 zs0 hl0 hm0 hn0 hN0 hw0 a1 w1

theorem over : Rows.satSumsRow.holds Try.pinned (OpenSpec.ofChange Rows.satSumsSpec) :=
  OpenClaim.holds_of_wide 9 Try.f9 rfl rfl rfl rfl rfl rfl rfl ⟨rfl, rfl, rfl, rfl, rfl⟩ rfl rfl rfl rfl rfl (by kernel_rfl) Try.func9 (by kernel_rfl)
    (of_decide_eq_true (by kernel_rfl)) (by unfold Func.isWrapper; first | (rw [if_pos (by decide +kernel)]; kernel_rfl) | (rw [if_neg (by decide +kernel)]; exact ⟨rfl, rfl⟩))
    (fun os started H enc _ => lifted os started H enc)

theorem proved : Rows.SatSumsSaid := over
#print axioms proved
end Go.Proofs.Ytefncobjndhhdaa.satSums
