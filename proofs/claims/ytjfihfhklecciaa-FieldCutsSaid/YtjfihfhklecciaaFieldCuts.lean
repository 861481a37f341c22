/- FieldCuts holds for any bytes and any two numbers: bytes that are taken in pieces are those that are taken at once. No condition. -/
import Derived.Test.YtjfihfhklecciaaField2
import Derived.Deep.RegionWith
namespace Go.Proofs.Ytjfihfhklecciaa.fieldCuts
open Go.ChangeShapes Go.WideShapes Go.ChangeAt Go.RowKit

theorem str_append (xs ys : List Int) : strOfNums xs ++ strOfNums ys = strOfNums (xs ++ ys) := by
  apply ByteArray.ext
  rw [ByteArray.data_append]
  simp [strOfNums]

theorem str_size (xs : List Int) : (strOfNums xs).size = xs.length := by simp [strOfNums, ByteArray.size]

set_option maxHeartbeats 4000000 in
theorem walk (w : World)
    (A : Option Addr) (n cap : Nat) (zs : List Int) (hl : n ≤ cap) (hm : cap ≤ maxLen) (hn : zs.length = n) (hN : Nums .u8 w A zs) (hw : ∀ z ∈ zs, (Lit.int .u8 z).wf = true) (i : Int) (wi : (Lit.int .i64 i).wf = true) (k : Int) (wk : (Lit.int .i64 k).wf = true) :
    Calls Try.prog 7 #[.slice A n cap, .int .i64 i, .int .i64 k] w fun e w' => e = .returned (.bool true) ∧ Below w.heap.size w w' := by
  clear wi wk hw
  have Hn := Lib.hid hn
  have HN := Lib.hid hN
  unfold maxLen at hm
  clear hn hN
  by_cases h5 : 300 < n ∨ i < 0 ∨ k < 0 ∨ (n : Int) < i ∨ (n : Int) - i < k
  · have hcase : (300 : Int) < n ∨ ((n : Int) ≤ 300 ∧ i < 0) ∨ ((n : Int) ≤ 300 ∧ 0 ≤ i ∧ k < 0) ∨ ((n : Int) ≤ 300 ∧ 0 ≤ i ∧ 0 ≤ k ∧ (n : Int) < i) ∨ ((n : Int) ≤ 300 ∧ 0 ≤ i ∧ 0 ≤ k ∧ i ≤ (n : Int) ∧ (n : Int) - i < k) := by omega
    clear h5
    rcases hcase with h | ⟨h1, h⟩ | ⟨h1, h2, h⟩ | ⟨h1, h2, h3, h⟩ | ⟨h1, h2, h3, h4, h⟩
    all_goals
      go_enter Try.func7, Try.ntmps7
      go_wp2_with (first
        | (go_at_call 8; refine (small_any _).mono ?_; rintro e w' ⟨rfl, hb⟩)
        )
      all_goals (first | (go_ret; exact ⟨rfl, hb⟩) | (exfalso; omega))
  · obtain ⟨i, rfl⟩ : ∃ i' : Nat, i = i' := ⟨i.toNat, by omega⟩
    obtain ⟨k, rfl⟩ : ∃ k' : Nat, k = k' := ⟨k.toNat, by omega⟩
    have n3 : (n : Int) ≤ 300 := by omega
    have i1 : (i : Int) ≤ n := by omega
    have k1 : (k : Int) ≤ (n : Int) - i := by omega
    have i2 : i ≤ n := by omega
    have k2 : k ≤ n - i := by omega
    have ik : i + k ≤ n := by omega
    clear h5
    go_enter Try.func7, Try.ntmps7
    go_wp2_with fail
    refine (small_any _).mono ?_
    rintro e w1 ⟨rfl, B1⟩
    go_wp2_with fail
    refine (open_any _ _ n _ zs Hn.out (HN.out.below B1) (by omega)).mono ?_
    rintro e w2 ⟨g, A2, c2, rfl, hg, h2, hN2, hA2, hc2, hc2', hB2⟩
    have B2 := B1.trans (hB2.mono B1.size)
    have hgl := row_lt h2
    have hg1 := Nat.le_trans B1.size hg
    clear hB2 B1
    go_wp2_with fail
    refine (open_b _ _ n _ zs Hn.out (HN.out.below B2) (by omega)).mono ?_
    rintro e w3 ⟨f, A3, c3, rfl, hf, h3, hN3, hA3, hc3, hc3', hB3, hA3'⟩
    have r3 := rd_kept h2 hB3
    have rN3 := hN2.below hB3
    have B3 := B2.trans (hB3.mono B2.size)
    have hfl := row_lt h3
    have hf1 := Nat.le_trans B2.size hf
    have hgf : g ≠ f := by omega
    clear hB3 B2 h2 hN2
    have hA3g : ∀ a, A3 = some a → a.block ≠ g := fun a h => by have := hA3' a h; omega
    have HA2 := Lib.hid hA2
    have HA3 := Lib.hid hA3
    have HA3g := Lib.hid hA3g
    clear hA2 hA3 hA3' hA3g
    go_wp2_with fail
    refine (take_ok r3 zs Hn.out rN3 hc2 hc2' HA2.out i i2 (by omega)).mono ?_
    rintro e w4 ⟨A4, c4, A5, c5, rfl, hO4, h4, hN5, hc5, hc5', hA5, hbut4, hbel4⟩
    have B4 := hbel4 _ _ hg1 B3
    have h4f : RdAt w4 f A3 n c3 false := (hbut4.1 f hfl (Ne.symm hgf)).trans h3
    have hN4 := hbut4.nums hN3 HA3g.out
    have hx := hO4.nums
    have DK := Lib.hid (show (zs.drop i).length = n - i by rw [List.length_drop, Hn.out])
    have HA5 := Lib.hid hA5
    have hx4 : ∀ a, A4 = some a → a.block ≠ g ∧ a.block ≠ f := fun a h => by have := (hO4.block' h).1; omega
    have HX4 := Lib.hid hx4
    have z4 := hbut4.2
    clear hA5 hx4 hbel4 hbut4 hO4 r3 rN3 hN3 h3 B3
    go_wp2_with fail
    refine (take_ok h4 (zs.drop i) DK.out hN5 hc5 hc5' HA5.out k k2 (by omega)).mono ?_
    rintro e w5 ⟨A6, c6, A7, c7, rfl, hO6, h5, hN7, hc7, hc7', hA7, hbut5, hbel5⟩
    have B5 := hbel5 _ _ hg1 B4
    have h5f : RdAt w5 f A3 n c3 false := (hbut5.1 f (by omega) (Ne.symm hgf)).trans h4f
    have hN5' := hbut5.nums hN4 HA3g.out
    have hx5 := hbut5.nums hx (fun a h => (HX4.out a h).1)
    have hy5 := hO6.nums
    have hx6 : ∀ a, A6 = some a → a.block ≠ f := fun a h => by have := (hO6.block' h).1; omega
    have HX6 := Lib.hid hx6
    have z5 := hbut5.2
    clear hx6 hbel5 hbut5 hO6 h4 hN5 hN7 hA7 hx h4f hN4 B4
    go_wp2_with fail
    refine (take_ok h5f zs Hn.out hN5' hc3 hc3' HA3.out (i + k) ik (by omega)).mono ?_
    rintro e w6 ⟨A8, c8, A9, c9, rfl, hO8, h6, hN9, hc9, hc9', hA9, hbut6, hbel6⟩
    have B6 := hbel6 _ _ hf1 B5
    have h6g : RdAt w6 g A7 (n - i - k) c7 false := (hbut6.1 g (by omega) hgf).trans h5
    have hx6 := hbut6.nums hx5 (fun a h => (HX4.out a h).2)
    have hy6 := hbut6.nums hy5 HX6.out
    have hz6 := hO8.nums
    rw [show n - (i + k) = n - i - k by omega] at h6
    have L1 := Lib.hid (show (zs.take i).length = i by rw [List.length_take, Hn.out]; omega)
    have L2 := Lib.hid (show ((zs.drop i).take k).length = k by rw [List.length_take, DK.out]; omega)
    have L3 := Lib.hid (show (zs.take (i + k)).length = i + k by rw [List.length_take, Hn.out]; omega)
    have hst : strOfNums (zs.take i) ++ strOfNums ((zs.drop i).take k) = strOfNums (zs.take (i + k)) := by rw [str_append, ← List.take_add]
    have sz1 : (strOfNums (zs.take i)).size = i := (str_size _).trans L1.out
    have sz2 : (strOfNums ((zs.drop i).take k)).size = k := (str_size _).trans L2.out
    have x1 : (convert 22 9 (.slice A4 i c4)).run Try.prog w6 = .ok (.string (strOfNums (zs.take i))) w6 :=
      text_of_nums Try.underlying22 Try.underlying5 Try.underlying9 hx6 L1.out
    have x2 : (convert 22 9 (.slice A6 k c6)).run Try.prog w6 = .ok (.string (strOfNums ((zs.drop i).take k))) w6 :=
      text_of_nums Try.underlying22 Try.underlying5 Try.underlying9 hy6 L2.out
    have x3 : (convert 22 9 (.slice A8 (i + k) c8)).run Try.prog w6 = .ok (.string (strOfNums (zs.take (i + k)))) w6 :=
      text_of_nums Try.underlying22 Try.underlying5 Try.underlying9 hz6 L3.out
    generalize strOfNums (zs.take i) = t1 at hst sz1 x1
    generalize strOfNums ((zs.drop i).take k) = t2 at hst sz2 x2
    generalize strOfNums (zs.take (i + k)) = t3 at hst x3
    have e0 : ((n - i - k : Nat) : Int) = (n : Int) - i - k := by omega
    clear hx5 hy5 hx6 hy6 hz6 hO8 hN9 hA9 hbut6 hbel6 h5 h5f hN5' B5
    go_wp2_with (first
      | (go_at_call_of 17 g; with_reducible refine (left_any h6g).mono ?_; rintro e w' ⟨rfl, rfl⟩)
      | (go_at_call_of 17 f; with_reducible refine (left_any h6).mono ?_; rintro e w' ⟨rfl, rfl⟩)
      | (go_at_call_of 19 g; with_reducible refine (done_any h6g).mono ?_; rintro e w' ⟨rfl, rfl⟩)
      | (go_at_call_of 19 f; with_reducible refine (done_any h6).mono ?_; rintro e w' ⟨rfl, rfl⟩)
      )
    go_ret
    exact ⟨rfl, B6⟩

theorem own : ownKnob Try.prog.godebug = none := by kernel_rfl
theorem laid : laidOutB Try.prog = true := by kernel_rfl

set_option maxRecDepth 100000 in
theorem lifted (os : Os) (started : os.Started) (H : Type) (enc : TypeId × Value → H) :
    ReturnsInHanded {} Try.checked os 7 .any (Rows.fieldCutsSpec.pre6 enc Try.prog Try.f7 Rows.fieldCutsRow.domain false) (Rows.fieldCutsSpec.post enc Try.prog Try.f7 false true false false) := by
  refine law_lifted (C := Try.checked) (B := 4) own started (by kernel_rfl) Try.func7
    (ChangeSpec.witness6 (enc := enc) (C := Try.checked) false ⟨#[], #[.slice none 0 0, .int .i64 0, .int .i64 0], []⟩ 8 (by kernel_rfl) (by kernel_rfl) (by kernel_rfl) (by kernel_rfl))
    rfl rfl Try.underlying4 laid (of_decide_eq_true (by kernel_rfl)) ?_ ?_
  · intro ds hl
    rw [Try.params7] at hl
    match ds, hl with
    | [d0, d1, d2], _ => rfl
  · intro W base args ds ps hval hA hlt hz
    rw [Try.params7] at hA hval
    obtain ⟨v0, vs0, d0, ds0, p0, q0, hargs, rfl, rfl, h0, r0⟩ := trodAll_cons hA
    obtain ⟨v1, vs1, d1, ds1, p1, q1, rfl, rfl, rfl, h1, r1⟩ := trodAll_cons r0
    obtain ⟨v2, vs2, d2, ds2, p2, q2, rfl, rfl, rfl, h2, r2⟩ := trodAll_cons r1
    obtain ⟨rfl, rfl, rfl⟩ := trodAll_nil r2
    obtain rfl : args = #[v0, v1, v2] := by cases args; simp_all
    obtain ⟨A0, n0, cap0, zs0, rfl, hl0, hm0, hn0, hN0, hw0⟩ := open_nums Try.underlying22 Try.underlying5 (by kernel_rfl) (hval 0 22 v0 rfl rfl) h0
    obtain ⟨a1, rfl, rfl, rfl, w1⟩ := open_int Try.underlying3 (hval 1 3 v1 rfl rfl) h1
    obtain ⟨a2, rfl, rfl, rfl, w2⟩ := open_int Try.underlying3 (hval 2 3 v2 rfl rfl) h2
    exact walk W A0 n0 cap0 zs0 hl0 hm0 hn0 hN0 hw0 a1 w1 a2 w2

theorem over : Rows.fieldCutsRow.holds Try.pinned (OpenSpec.ofChange Rows.fieldCutsSpec) :=
  OpenClaim.holds_of_wide 7 Try.f7 rfl rfl rfl rfl rfl rfl rfl ⟨rfl, rfl, rfl, rfl, rfl⟩ rfl rfl rfl rfl rfl (by kernel_rfl) Try.func7 (by kernel_rfl)
    (of_decide_eq_true (by kernel_rfl)) (by unfold Func.isWrapper; first | (rw [if_pos (by decide +kernel)]; kernel_rfl) | (rw [if_neg (by decide +kernel)]; exact ⟨rfl, rfl⟩))
    (fun os started H enc _ => lifted os started H enc)

theorem proved : Rows.FieldCutsSaid := over
#print axioms proved
end Go.Proofs.Ytjfihfhklecciaa.fieldCuts
