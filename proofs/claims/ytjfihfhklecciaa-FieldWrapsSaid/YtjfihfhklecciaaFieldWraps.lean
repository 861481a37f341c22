/- FieldWraps holds for any number up to 2^56, any size from 1 to 6: numbers that are a power of 256 apart are laid alike, and sizes beyond 1 to 7 are those. No condition. -/
import Derived.Test.YtjfihfhklecciaaField2
import Derived.Test.YtjfihfhklecciaaFieldMath2
import Derived.Deep.RegionHeld
namespace Go.Proofs.Ytjfihfhklecciaa.fieldWraps
open Go.ChangeShapes Go.WideShapes Go.ChangeAt Go.RowKit

theorem lay_add : ∀ (k : Nat) (x : Int), lay (x + 256 ^ k) k = lay x k
  | 0, x => by simp [lay]
  | k + 1, x => by
    rw [lay_succ, lay_succ x]
    have e1 : (x + 256 ^ (k + 1)) / 256 = x / 256 + 256 ^ k := by rw [Int.pow_succ]; omega
    have e2 : byt (x + 256 ^ (k + 1)) 0 = byt x 0 := by unfold byt; rw [Int.pow_succ]; simp
    rw [e1, e2, lay_add k]
theorem lay_sub (k : Nat) (x : Int) : lay (x - 256 ^ k) k = lay x k := by
  have := lay_add k (x - 256 ^ k)
  rw [Int.sub_add_cancel] at this
  exact this.symm

/-- What is laid, as a text, in whatever world behind it. -/
theorem put_all {w : World} {x s : Int} {k : Nat} {t : ByteArray} (wx : -9223372036854775808 ≤ x ∧ x ≤ 9223372036854775807) (hk : min (max s 1) 7 = (k : Int)) (ht : strOfNums (lay x k) = t) :
    Calls Try.prog 11 #[.slice none 0 0, .int .i64 x, .int .i64 s] w fun e w' => ∃ A' c', e = .returned (.slice A' k c') ∧ (convert 22 9 (.slice A' k c')).run Try.prog w' = .ok (.string t) w' ∧ (∀ W, Below w'.heap.size w' W → (convert 22 9 (.slice A' k c')).run Try.prog W = .ok (.string t) W) ∧ Below w.heap.size w w' := by
  refine (put_any w none 0 0 [] rfl Nums.nil (by decide) x s wx k hk).mono ?_
  rintro e w' ⟨A', c', rfl, hO, hB⟩
  have hall : ∀ W, Below w'.heap.size w' W → (convert 22 9 (.slice A' k c')).run Try.prog W = .ok (.string t) W := fun W hW => by
    rw [← ht]
    exact text_of_nums Try.underlying22 Try.underlying5 Try.underlying9 (by simpa using hO.nums.below hW) (by rw [lay_len])
  exact ⟨A', c', by rw [Nat.zero_add], hall w' (Below.refl _ _), hall, hB⟩

structure Held (w V : World) (A : Option Addr) (k c : Nat) (t : ByteArray) (W : World) : Prop where
  text : (convert 22 9 (.slice A k c)).run Try.prog W = .ok (.string t) W
  far : Below V.heap.size V W
  low : Below w.heap.size w W

set_option maxRecDepth 10000 in
set_option maxHeartbeats 8000000 in
theorem walk (w : World) (n : Int) (w1 : (Lit.int .i64 n).wf = true) (size : Int) (w2 : (Lit.int .i64 size).wf = true) :
    Calls Try.prog 6 #[.int .i64 n, .int .i64 size] w fun e w' => e = .returned (.bool true) ∧ Below w.heap.size w w' := by
  clear w1 w2
  by_cases hbad : n < -72057594037927936 ∨ 72057594037927936 < n ∨ size < 1 ∨ 6 < size
  · have hcase : n < -72057594037927936 ∨ (-72057594037927936 ≤ n ∧ 72057594037927936 < n) ∨ (-72057594037927936 ≤ n ∧ n ≤ 72057594037927936 ∧ size < 1) ∨ (-72057594037927936 ≤ n ∧ n ≤ 72057594037927936 ∧ 1 ≤ size ∧ 6 < size) := by omega
    clear hbad
    rcases hcase with h | ⟨h0, h⟩ | ⟨h0, h1, h⟩ | ⟨h0, h1, h2, h⟩
    all_goals
      go_enter Try.func6, Try.ntmps6
      go_wp2_with fail
      refine (small_any _).mono ?_
      rintro e w1 ⟨rfl, B1⟩
      go_wp2_with fail
      go_ret
      exact ⟨rfl, B1⟩
  · obtain ⟨k, rfl⟩ : ∃ k : Nat, size = k := ⟨size.toNat, by omega⟩
    have n0 : -72057594037927936 ≤ n := by omega
    have n1 : n ≤ 72057594037927936 := by omega
    have k1 : 1 ≤ k := by omega
    have k6 : k ≤ 6 := by omega
    obtain ⟨P, hP⟩ : ∃ P : Int, P = 256 ^ k := ⟨_, rfl⟩
    have hP1 : 0 < P ∧ P ≤ 281474976710656 := ⟨by rw [hP]; exact Int.pow_pos (by decide), by rw [hP]; exact pow_le k6⟩
    have m1 : IntKind.i64.wrap (8 * (k : Int)) = 8 * (k : Int) := IntWalk.i64_in _ (by omega)
    have hsh : IntKind.i64.wrap (2 ^ (8 * (k : Int)).toNat) = P := by
      rw [hP]
      have hk : k = 1 ∨ k = 2 ∨ k = 3 ∨ k = 4 ∨ k = 5 ∨ k = 6 := by omega
      rcases hk with rfl | rfl | rfl | rfl | rfl | rfl <;> decide +kernel
    have e1 : IntKind.i64.wrap (n + P) = n + P := IntWalk.i64_in _ (by omega)
    have e2 : IntKind.i64.wrap (n - P) = n - P := IntWalk.i64_in _ (by omega)
    have HK := Lib.hid (show min (max (k : Int) 1) 7 = (k : Int) by omega)
    obtain ⟨T, hT⟩ : ∃ T, strOfNums (lay n k) = T := ⟨_, rfl⟩
    obtain ⟨T1, hT1⟩ : ∃ T, strOfNums (lay n 1) = T := ⟨_, rfl⟩
    obtain ⟨T7, hT7⟩ : ∃ T, strOfNums (lay n 7) = T := ⟨_, rfl⟩
    have HT := Lib.hid hT
    have HTa := Lib.hid (show strOfNums (lay (n + P) k) = T by rw [hP, lay_add]; exact hT)
    have HTs := Lib.hid (show strOfNums (lay (n - P) k) = T by rw [hP, lay_sub]; exact hT)
    have HT1 := Lib.hid hT1
    have HT7 := Lib.hid hT7
    clear hT hT1 hT7 hP hbad
    have k1' : (1 : Int) ≤ (k : Int) := by omega
    have k6' : (k : Int) ≤ 6 := by omega
    go_enter Try.func6, Try.ntmps6
    go_wp2_with fail
    refine (small_any _).mono ?_
    rintro e w1 ⟨rfl, B1⟩
    go_wp2_with fail
    refine (put_all (k := k) (by omega) HK.out HT.out).mono ?_
    rintro e w2 ⟨A, c, rfl, h2, hall2, hb2⟩
    have B2 := B1.trans (hb2.mono B1.size)
    have H0 : Held w w2 A k c T w2.drew := ⟨hall2 _ (below_drewN (Below.refl _ _) 1), below_drewN (Below.refl _ _) 1, below_drewN B2 1⟩
    have HKeep := Lib.hid (fun (W W' : World) (h : Held w w2 A k c T W) (hb : Below W.heap.size W W') => show Held w w2 A k c T W' from
      ⟨hall2 _ (h.far.trans (hb.mono h.far.size)), h.far.trans (hb.mono h.far.size), h.low.trans (hb.mono h.low.size)⟩)
    clear hb2 B1 B2 h2 hall2
    go_wp2_with fail
    go_region_held (fun W => (convert 22 9 (.slice A k c)).run Try.prog W = .ok (.string T) W ∧ Held w w2 A k c T W)
      (first | exact ⟨H0.text, H0⟩ | exact ⟨hH.text, hH⟩ | go_keep)
      (first
        | (go_at_call 11; with_reducible refine (put_all (x := n + P) (s := (k : Int)) (k := k) (by omega) HK.out HTa.out).mono ?_; rintro e w4 ⟨A4, c4, rfl, hT4, hF4, hb⟩; have hH := HKeep.out _ _ (And.right (by assumption)) hb)
        | (go_at_call 11; with_reducible refine (put_all (x := n - P) (s := (k : Int)) (k := k) (by omega) HK.out HTs.out).mono ?_; rintro e w4 ⟨A4, c4, rfl, hT4, hF4, hb⟩; have hH := HKeep.out _ _ (And.right (by assumption)) hb)
        | (go_at_call 11; with_reducible refine (put_all (x := n) (s := 0) (k := 1) (by omega) (by decide) HT1.out).mono ?_; rintro e w4 ⟨A4, c4, rfl, hT4, hF4, hb⟩; have hH := HKeep.out _ _ (And.right (by assumption)) hb)
        | (go_at_call 11; with_reducible refine (put_all (x := n) (s := 1) (k := 1) (by omega) (by decide) HT1.out).mono ?_; rintro e w4 ⟨A4, c4, rfl, hT4, hF4, hb⟩; have hH := HKeep.out _ _ (And.right (by assumption)) hb)
        | (go_at_call 11; with_reducible refine (put_all (x := n) (s := 99) (k := 7) (by omega) (by decide) HT7.out).mono ?_; rintro e w4 ⟨A4, c4, rfl, hT4, hF4, hb⟩; have hH := HKeep.out _ _ (And.right (by assumption)) hb)
        | (go_at_call 11; with_reducible refine (put_all (x := n) (s := 7) (k := 7) (by omega) (by decide) HT7.out).mono ?_; rintro e w4 ⟨A4, c4, rfl, hT4, hF4, hb⟩; have hH := HKeep.out _ _ (And.right (by assumption)) hb))
    all_goals
      go_wp2
      go_ret
      exact ⟨rfl, (show Held w w2 A k c T _ from And.right (by assumption)).low⟩

theorem own : ownKnob Try.prog.godebug = none := by kernel_rfl
theorem laid : laidOutB Try.prog = true := by kernel_rfl

set_option maxRecDepth 100000 in
theorem lifted (os : Os) (started : os.Started) (H : Type) (enc : TypeId × Value → H) :
    ReturnsInHanded {} Try.checked os 6 .any (Rows.fieldWrapsSpec.pre6 enc Try.prog Try.f6 Rows.fieldWrapsRow.domain false) (Rows.fieldWrapsSpec.post enc Try.prog Try.f6 false true false false) := by
  refine law_lifted (C := Try.checked) (B := 4) own started (by kernel_rfl) Try.func6
    (ChangeSpec.witness6 (enc := enc) (C := Try.checked) false ⟨#[], #[.int .i64 0, .int .i64 0], []⟩ 8 (by kernel_rfl) (by kernel_rfl) (by kernel_rfl) (by kernel_rfl))
    rfl rfl Try.underlying4 laid (of_decide_eq_true (by kernel_rfl)) ?_ ?_
  · intro ds hl
    rw [Try.params6] at hl
    match ds, hl with
    | [d0, d1], _ => rfl
  · intro W base args ds ps hval hA hlt hz
    rw [Try.params6] at hA hval
    obtain ⟨v0, vs0, d0, ds0, p0, q0, hargs, rfl, rfl, h0, r0⟩ := trodAll_cons hA
    obtain ⟨v1, vs1, d1, ds1, p1, q1, rfl, rfl, rfl, h1, r1⟩ := trodAll_cons r0
    obtain ⟨rfl, rfl, rfl⟩ := trodAll_nil r1
    obtain rfl : args = #[v0, v1] := by cases args; simp_all
    obtain ⟨a0, rfl, rfl, rfl, w0⟩ := open_int Try.underlying3 (hval 0 3 v0 rfl rfl) h0
    obtain ⟨a1, rfl, rfl, rfl, w1⟩ := open_int Try.underlying3 (hval 1 3 v1 rfl rfl) h1
    exact walk W a0 w0 a1 w1

theorem over : Rows.fieldWrapsRow.holds Try.pinned (OpenSpec.ofChange Rows.fieldWrapsSpec) :=
  OpenClaim.holds_of_wide 6 Try.f6 rfl rfl rfl rfl rfl rfl rfl ⟨rfl, rfl, rfl, rfl, rfl⟩ rfl rfl rfl rfl rfl (by kernel_rfl) Try.func6 (by kernel_rfl)
    (of_decide_eq_true (by kernel_rfl)) (by unfold Func.isWrapper; first | (rw [if_pos (by decide +kernel)]; kernel_rfl) | (rw [if_neg (by decide +kernel)]; exact ⟨rfl, rfl⟩))
    (fun os started H enc _ => lifted os started H enc)

theorem proved : Rows.FieldWrapsSaid := over
#print axioms proved
end Go.Proofs.Ytjfihfhklecciaa.fieldWraps
