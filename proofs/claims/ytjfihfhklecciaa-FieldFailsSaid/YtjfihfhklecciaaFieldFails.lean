/- FieldFails holds for any bytes and any number: who has failed reads nothing any more, and a failure comes just if there are too few bytes. No condition. -/
import Derived.Test.YtjfihfhklecciaaField2
import Derived.BigQuiet
namespace Go.Proofs.Ytjfihfhklecciaa.fieldFails
open Go.ChangeShapes Go.WideShapes Go.ChangeAt Go.RowKit

set_option maxHeartbeats 2000000 in
theorem walk (w : World)
    (A : Option Addr) (n cap : Nat) (zs : List Int) (hl : n ≤ cap) (hm : cap ≤ maxLen) (hn : zs.length = n) (hN : Nums .u8 w A zs) (hw : ∀ z ∈ zs, (Lit.int .u8 z).wf = true) (k : Int) (wk : (Lit.int .i64 k).wf = true) :
    Calls Try.prog 5 #[.slice A n cap, .int .i64 k] w fun e w' => e = .returned (.bool true) ∧ Below w.heap.size w w' := by
  clear wk hw
  have Hn := Lib.hid hn
  have HN := Lib.hid hN
  unfold maxLen at hm
  clear hn hN
  by_cases h5 : 500 < n
  · go_enter Try.func5, Try.ntmps5
    go_wp2_with (first
      | (go_at_call 8; refine (small_any _).mono ?_; rintro e w' ⟨rfl, hb⟩)
      )
    all_goals (go_ret; exact ⟨rfl, hb⟩)
  · by_cases hk : 0 ≤ k ∧ k ≤ n
    · obtain ⟨k, rfl⟩ : ∃ k' : Nat, k = k' := ⟨k.toNat, by omega⟩
      have kn : k ≤ n := by omega
      have kn' : (k : Int) ≤ n := by omega
      clear hk
      go_enter Try.func5, Try.ntmps5
      go_wp2_with fail
      refine (small_any _).mono ?_
      rintro e w1 ⟨rfl, B1⟩
      go_wp2_with fail
      refine (open_any _ _ n _ zs Hn.out (HN.out.below B1) (by omega)).mono ?_
      rintro e w2 ⟨g, A2, c2, rfl, hg, h2, hN2, hA2, hc2, hc2', hB2⟩
      have B2 := B1.trans (hB2.mono B1.size)
      have hN1 := (HN.out.below B1).below hB2
      go_wp2_with fail
      refine (take_ok h2 zs Hn.out hN2 hc2 hc2' hA2 k kn (by omega)).mono ?_
      rintro e w3 ⟨A3, c3, A4, c4, rfl, hO3, h3, hN4, -, -, -, hbut, hbel⟩
      have B3 := hbel _ _ (Nat.le_trans B1.size hg) B2
      have hNA : Nums .u8 w3 A zs := HN.out.below B3
      have TK := Lib.hid (show (zs.take k).length = k by rw [List.length_take, Hn.out]; omega)
      obtain ⟨t, ht⟩ : ∃ t, strOfNums (zs.take k) = t := ⟨_, rfl⟩
      have x1 : ∀ m, (convert 22 9 (.slice A3 k c3)).run Try.prog (w3.drewN m) = .ok (.string t) (w3.drewN m) := fun m => by
        rw [← ht]; exact text_of_nums Try.underlying22 Try.underlying5 Try.underlying9 (hO3.nums.drewN m) TK.out
      have x2 : ∀ m, (convert 22 9 (.slice A k cap)).run Try.prog (w3.drewN m) = .ok (.string t) (w3.drewN m) := fun m => by
        rw [← ht]; exact text_of_nums Try.underlying22 Try.underlying5 Try.underlying9 ((hNA.take k).drewN m) TK.out
      clear ht hNA hN4 hbut hbel hO3 hN1 hN2 hB2 B2 B1
      have e0 : ((n - k : Nat) : Int) = (n : Int) - k := by omega
      have e1 : IntKind.i64.wrap ((n : Int) - k) = (n : Int) - k := IntWalk.i64_in _ (by omega)
      go_wp2_with fail
      go_quiet ((first
        | (go_at_call 17; exact quiet_left (left_any h3))
        | (go_at_call 19; exact quiet_left (done_any h3))))
      go_wp2
      go_ret
      exact ⟨ret_bool (by rw [beq_iff_eq, Bool.eq_iff_iff]; simp; omega), below_drewN B3 _⟩
    · have hk' : false = true ∨ k < 0 ∨ (n : Int) < k := by omega
      have hk2 : k < 0 ∨ (0 ≤ k ∧ (n : Int) < k) := by omega
      clear hk
      rcases hk2 with hk | ⟨hk, hk1⟩
      all_goals
        go_enter Try.func5, Try.ntmps5
        go_wp2_with fail
        refine (small_any _).mono ?_
        rintro e w1 ⟨rfl, B1⟩
        go_wp2_with fail
        refine (open_any _ _ n _ zs Hn.out (HN.out.below B1) (by omega)).mono ?_
        rintro e w2 ⟨g, A2, c2, rfl, hg, h2, hN2, hA2, hc2, hc2', hB2⟩
        have B2 := B1.trans (hB2.mono B1.size)
        have hg' := Nat.le_trans B1.size hg
        go_wp2_with fail
        refine (take_bad h2 k (by omega)).mono ?_
        rintro e w3 ⟨rfl, h3, -, hw3⟩
        have B3 : Below w.heap.size w w3 := by rw [hw3]; exact setRow_below B2 hg'
        clear hw3 h2 hN2 B2 hB2
        go_wp2_with fail
        refine (take_bad h3 0 (Or.inl rfl)).mono ?_
        rintro e w4 ⟨rfl, h4, -, hw4⟩
        have B4 : Below w.heap.size w w4 := by rw [hw4]; exact setRow_below B3 hg'
        clear hw4 h3 B3
        go_wp2_with fail
        refine (num_bad h4 1 (Or.inl rfl)).mono ?_
        rintro e w5 ⟨rfl, h5', hw5⟩
        have B5 : Below w.heap.size w w5 := by rw [hw5]; exact setRow_below B4 hg'
        clear hw5 h4 B4
        go_wp2_with (first
          | (go_at_call 17; refine (left_any h5').mono ?_; rintro e w' ⟨rfl, rfl⟩)
          | (go_at_call 19; refine (done_any h5').mono ?_; rintro e w' ⟨rfl, rfl⟩)
          )
        go_ret
        exact ⟨rfl, B5⟩

theorem own : ownKnob Try.prog.godebug = none := by kernel_rfl
theorem laid : laidOutB Try.prog = true := by kernel_rfl

set_option maxRecDepth 100000 in
theorem lifted (os : Os) (started : os.Started) (H : Type) (enc : TypeId × Value → H) :
    ReturnsInHanded {} Try.checked os 5 .any (Rows.fieldFailsSpec.pre6 enc Try.prog Try.f5 Rows.fieldFailsRow.domain false) (Rows.fieldFailsSpec.post enc Try.prog Try.f5 false true false false) := by
  refine law_lifted (C := Try.checked) (B := 4) own started (by kernel_rfl) Try.func5
    (ChangeSpec.witness6 (enc := enc) (C := Try.checked) false ⟨#[], #[.slice none 0 0, .int .i64 0], []⟩ 8 (by kernel_rfl) (by kernel_rfl) (by kernel_rfl) (by kernel_rfl))
    rfl rfl Try.underlying4 laid (of_decide_eq_true (by kernel_rfl)) ?_ ?_
  · intro ds hl
    rw [Try.params5] at hl
    match ds, hl with
    | [d0, d1], _ => rfl
  · intro W base args ds ps hval hA hlt hz
    rw [Try.params5] at hA hval
    obtain ⟨v0, vs0, d0, ds0, p0, q0, hargs, rfl, rfl, h0, r0⟩ := trodAll_cons hA
    obtain ⟨v1, vs1, d1, ds1, p1, q1, rfl, rfl, rfl, h1, r1⟩ := trodAll_cons r0
    obtain ⟨rfl, rfl, rfl⟩ := trodAll_nil r1
    obtain rfl : args = #[v0, v1] := by cases args; simp_all
    obtain ⟨A0, n0, cap0, zs0, rfl, hl0, hm0, hn0, hN0, hw0⟩ := open_nums Try.underlying22 Try.underlying5 (by kernel_rfl) (hval 0 22 v0 rfl rfl) h0
    obtain ⟨a1, rfl, rfl, rfl, w1⟩ := open_int Try.underlying3 (hval 1 3 v1 rfl rfl) h1
    exact walk W A0 n0 cap0 zs0 hl0 hm0 hn0 hN0 hw0 a1 w1

theorem over : Rows.fieldFailsRow.holds Try.pinned (OpenSpec.ofChange Rows.fieldFailsSpec) :=
  OpenClaim.holds_of_wide 5 Try.f5 rfl rfl rfl rfl rfl rfl rfl ⟨rfl, rfl, rfl, rfl, rfl⟩ rfl rfl rfl rfl rfl (by kernel_rfl) Try.func5 (by kernel_rfl)
    (of_decide_eq_true (by kernel_rfl)) (by unfold Func.isWrapper; first | (rw [if_pos (by decide +kernel)]; kernel_rfl) | (rw [if_neg (by decide +kernel)]; exact ⟨rfl, rfl⟩))
    (fun os started H enc _ => lifted os started H enc)

theorem proved : Rows.FieldFailsSaid := over
#print axioms proved
end Go.Proofs.Ytjfihfhklecciaa.fieldFails
