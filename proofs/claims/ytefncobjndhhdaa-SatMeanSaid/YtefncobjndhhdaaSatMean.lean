/- SatMean holds for all numbers, and however often: a mean is no less than the least, and no more than the greatest, and of like numbers it is each. No condition. -/
import Derived.Test.YtefncobjndhhdaaSat
namespace Go.Proofs.Ytefncobjndhhdaa.satMean
open Go.ChangeShapes Go.WideShapes Go.ChangeAt Go.RowKit

theorem info : (Try.prog.info? 3).map (fun i => (i.zero, i.size, i.bytes)) = some (some (.int .i64 0), 1, 8) := by kernel_rfl

def Bds (zs : List Int) (k : Nat) (lo hi : Int) : Prop := (∀ x ∈ zs.take k, lo ≤ Sat.clamp x ∧ Sat.clamp x ≤ hi) ∧ hi ≤ 1073741824
theorem Bds.start (zs : List Int) : Bds zs 0 1099511627776 0 := ⟨by simp, by omega⟩
theorem Bds.step {zs : List Int} {k : Nat} {lo hi lo' hi' x : Int} (h : Bds zs k lo hi) (hk : k < zs.length) (hx : Sat.clamp (zs.getD k 0) = x) (h1 : x ≤ 1073741824) (hlo : lo' = min lo x) (hhi : hi' = max hi x) : Bds zs (k + 1) lo' hi' := by
  refine ⟨fun y hy => ?_, by have := h.2; omega⟩
  rw [List.take_succ_eq_append_getElem hk, List.mem_append] at hy
  rcases hy with hy | hy
  · have := h.1 y hy; omega
  · have e : y = zs.getD k 0 := by simp at hy; simp [List.getD, hk, hy]
    rw [e, hx]; omega

set_option maxHeartbeats 800000 in
theorem walk (w : World)
    (A : Option Addr) (n cap : Nat) (zs : List Int) (hl : n ≤ cap) (hm : cap ≤ maxLen) (hn : zs.length = n) (hN : Nums .i64 w A zs) (hw : ∀ z ∈ zs, (Lit.int .i64 z).wf = true)
    (a : Int) (wa : (Lit.int .i64 a).wf = true) (m : Int) (wm : (Lit.int .i64 m).wf = true) :
    Calls Try.prog 6 #[.slice A n cap, .int .i64 a, .int .i64 m] w fun e w' => e = .returned (.bool true) ∧ Below w.heap.size w w' := by
  clear hw wa wm
  have Hn := Lib.hid hn
  have HN := Lib.hid hN
  unfold maxLen at hm
  clear hn hN
  by_cases h : 100 < n ∨ n < 1 ∨ m < 1 ∨ 100 < m
  · have hd : (decide ((100 : Int) < n) || decide ((n : Int) < 1) || decide (m < 1) || decide (100 < m)) = true := by
      simp only [Bool.or_eq_true, decide_eq_true_eq]; omega
    rcases h with h | h | h | h
    all_goals
      go_enter Try.func6, Try.ntmps6
      go_wp2_with (first
        | (go_at_call 11; refine (small_any _).mono ?_; rintro e w' ⟨rfl, hb⟩)
        | (go_at_call 12; refine (clamp_any _ _).mono ?_; rintro e w' ⟨rfl, rfl⟩)
        | (go_at_call 14; refine (add_any _ _ _).mono ?_; rintro e w' ⟨rfl, rfl⟩)
        | (go_at_call 16; refine (sub_any _ _ _).mono ?_; rintro e w' ⟨rfl, rfl⟩)
        | (go_at_call 18; refine (mul_any _ _ _).mono ?_; rintro e w' ⟨rfl, rfl⟩)
        )
      all_goals (first | (go_ret; exact ⟨rfl, hb⟩) | (exfalso; omega))
  · have g1 : ¬ 100 < n := by omega
    have g2 : 1 ≤ n := by omega
    have g3 : 1 ≤ m := by omega
    have g4 : m ≤ 100 := by omega
    clear h
    rcases HN.out with h0 | ⟨b, off, rfl, hlt, hc⟩
    · have := Hn.out; rw [h0] at this; simp at this; omega
    have Hc := Lib.hid hc
    clear hc
    go_enter Try.func6, Try.ntmps6
    go_wp2_with (first
      | (go_at_call 11; refine (small_any _).mono ?_; rintro e w' ⟨rfl, hb⟩)
      | (go_at_call 12; refine (clamp_any _ _).mono ?_; rintro e w' ⟨rfl, rfl⟩)
      | (go_at_call 14; refine (add_any _ _ _).mono ?_; rintro e w' ⟨rfl, rfl⟩)
      | (go_at_call 16; refine (sub_any _ _ _).mono ?_; rintro e w' ⟨rfl, rfl⟩)
      | (go_at_call 18; refine (mul_any _ _ _).mono ?_; rintro e w' ⟨rfl, rfl⟩)
      )
    go_loop [8, 9, 10] (fun lo hi i => ∃ (k : Nat) (l u : Int), k ≤ n ∧ i = .int .i64 k ∧ lo = .int .i64 l ∧ hi = .int .i64 u ∧ Bds zs k l u) (fun _ _ i => n - (intOf i).toNat)
    case atStart => exact ⟨0, _, _, Nat.zero_le _, rfl, rfl, rfl, Bds.start zs⟩
    case round =>
      obtain ⟨k, l, u, hk, rfl, rfl, rfl, hB⟩ := hrel
      have HB := Lib.hid hB
      clear hB
      by_cases hlt : k < n
      · have hcell : w'.cell? ⟨b, off + k, none⟩ = some (.int .i64 (zs.getD k 0)) := (hb.cell (p := ⟨b, off + k, none⟩) (by assumption)).trans (Hc.out k (by rw [Hn.out]; exact hlt))
        generalize hz : zs.getD k 0 = z at hcell
        have Hz := Lib.hid hz
        clear hz
        by_cases hx : 1073741824 < Sat.clamp z
        · go_wp2_with (first
            | (go_at_call 11; refine (small_any _).mono ?_; rintro e w' ⟨rfl, hb⟩)
            | (go_at_call 12; refine (clamp_any _ _).mono ?_; rintro e w' ⟨rfl, rfl⟩)
            | (go_at_call 14; refine (add_any _ _ _).mono ?_; rintro e w' ⟨rfl, rfl⟩)
            | (go_at_call 16; refine (sub_any _ _ _).mono ?_; rintro e w' ⟨rfl, rfl⟩)
            | (go_at_call 18; refine (mul_any _ _ _).mono ?_; rintro e w' ⟨rfl, rfl⟩)
            )
          go_ret
          exact ⟨rfl, hb⟩
        · go_wp2_with (first
            | (go_at_call 11; refine (small_any _).mono ?_; rintro e w' ⟨rfl, hb⟩)
            | (go_at_call 12; refine (clamp_any _ _).mono ?_; rintro e w' ⟨rfl, rfl⟩)
            | (go_at_call 14; refine (add_any _ _ _).mono ?_; rintro e w' ⟨rfl, rfl⟩)
            | (go_at_call 16; refine (sub_any _ _ _).mono ?_; rintro e w' ⟨rfl, rfl⟩)
            | (go_at_call 18; refine (mul_any _ _ _).mono ?_; rintro e w' ⟨rfl, rfl⟩)
            )
          go_round
          case rel => exact ⟨k + 1, _, _, by omega, by go_num, rfl, rfl, HB.out.step (by rw [Hn.out]; exact hlt) (by rw [Hz.out]) hx (by split <;> omega) (by split <;> omega)⟩
          case measure => simp [intOf]; omega
      · obtain rfl : k = n := by omega
        have hall : (∀ x ∈ zs, l ≤ Sat.clamp x ∧ Sat.clamp x ≤ u) ∧ u ≤ 1073741824 := by
          have := HB.out
          unfold Bds at this
          rwa [List.take_of_length_le (by rw [Hn.out]; exact Nat.le_refl _)] at this
        obtain ⟨f1, f2⟩ := Sat.mean_between zs l u (by rw [Hn.out]; omega) (by rw [Hn.out]; omega) hall.2 (fun x hx => (hall.1 x hx).1) (fun x hx => (hall.1 x hx).2)
        clear hall hlt
        obtain ⟨i0, hi, hz0, hz1, hz2⟩ := info_parts info
        have HI := Lib.hid (And.intro hi (And.intro hz0 (And.intro hz1 hz2)))
        clear hi hz0 hz1 hz2
        obtain ⟨c, rfl⟩ := Int.eq_ofNat_of_zero_le (show 0 ≤ m by omega)
        go_wp2_with (first
          | (go_at_call 11; refine (small_any _).mono ?_; rintro e w' ⟨rfl, hb⟩)
          | (go_at_call 12; refine (clamp_any _ _).mono ?_; rintro e w' ⟨rfl, rfl⟩)
          | (go_at_call 14; refine (add_any _ _ _).mono ?_; rintro e w' ⟨rfl, rfl⟩)
          | (go_at_call 16; refine (sub_any _ _ _).mono ?_; rintro e w' ⟨rfl, rfl⟩)
          | (go_at_call 18; refine (mul_any _ _ _).mono ?_; rintro e w' ⟨rfl, rfl⟩)
          | (go_at_call 22; refine (mean_any _ _ _ zs _ Hn.out (by omega) (HN.out.below hb)).mono ?_; rintro e w' ⟨rfl, rfl⟩)
          )
        go_loopw [13, 14] (fun v i wr => ∃ (j : Nat) (A' : Option Addr) (c' : Nat), j ≤ c ∧ i = .int .i64 j ∧ v = .slice A' j c' ∧ OwnN .i64 3 w'.heap.size wr A' c' (List.replicate j a) ∧ Below w.heap.size w wr) (fun _ i _ => c - (intOf i).toNat)
        case atStart => exact ⟨0, none, 0, Nat.zero_le _, rfl, rfl, OwnN.nil (Nat.le_refl _), hb⟩
        case round =>
          obtain ⟨j, A', c', hj, rfl, rfl, hO, hbr⟩ := hrel
          have HO := Lib.hid hO
          clear hO
          by_cases hjc : j < c
          · go_wp2_with (first
              | (at_builtin; refine wpList_append_num rfl _ _ 22 rfl i0 8 Try.underlying22 HI.out.1 HI.out.2.1 HI.out.2.2.1 HI.out.2.2.2 (by decide) _ (by rw [List.length_replicate]) rfl (HO.out.alloc _) ⟨wr.heap.size, 0, none⟩ _ a rfl (by simp) (by rw [List.length_replicate]; omega) w.heap.size w hb.size (hbr.alloc hbr.size _) ?_; intro A2 c2 w2 hO2 hb2)
              )
            go_roundw
            case rel => exact ⟨j + 1, A2, c2, by omega, by go_num, rfl, by rw [List.replicate_succ']; exact hO2, hb2⟩
            case measure => simp [intOf]; omega
          · obtain rfl : j = c := by omega
            by_cases hx : 1073741824 < Sat.clamp a
            · go_wp2_with (first
                | (go_at_call 11; refine (small_any _).mono ?_; rintro e w' ⟨rfl, hb⟩)
                | (go_at_call 12; refine (clamp_any _ _).mono ?_; rintro e w' ⟨rfl, rfl⟩)
                | (go_at_call 14; refine (add_any _ _ _).mono ?_; rintro e w' ⟨rfl, rfl⟩)
                | (go_at_call 16; refine (sub_any _ _ _).mono ?_; rintro e w' ⟨rfl, rfl⟩)
                | (go_at_call 18; refine (mul_any _ _ _).mono ?_; rintro e w' ⟨rfl, rfl⟩)
                )
              go_ret
              exact ⟨rfl, hbr⟩
            · have e1 := Sat.mean_like j a (by omega) (by omega) (by omega)
              go_wp2_with (first
                | (go_at_call 11; refine (small_any _).mono ?_; rintro e w' ⟨rfl, hb⟩)
                | (go_at_call 12; refine (clamp_any _ _).mono ?_; rintro e w' ⟨rfl, rfl⟩)
                | (go_at_call 14; refine (add_any _ _ _).mono ?_; rintro e w' ⟨rfl, rfl⟩)
                | (go_at_call 16; refine (sub_any _ _ _).mono ?_; rintro e w' ⟨rfl, rfl⟩)
                | (go_at_call 18; refine (mul_any _ _ _).mono ?_; rintro e w' ⟨rfl, rfl⟩)
                | (go_at_call 22; refine (mean_any _ _ _ (List.replicate j a) _ (by rw [List.length_replicate]) (by omega) HO.out.nums).mono ?_; rintro e w' ⟨rfl, rfl⟩)
                )
              go_ret
              exact ⟨rfl, hbr⟩

theorem own : ownKnob Try.prog.godebug = none := by kernel_rfl
theorem laid : laidOutB Try.prog = true := by kernel_rfl

set_option maxRecDepth 100000 in
theorem lifted (os : Os) (started : os.Started) (H : Type) (enc : TypeId × Value → H) :
    ReturnsInHanded {} Try.checked os 6 .any (Rows.satMeanSpec.pre6 enc Try.prog Try.f6 Rows.satMeanRow.domain false) (Rows.satMeanSpec.post enc Try.prog Try.f6 false true false false) := by
  refine law_lifted (C := Try.checked) (B := 4) own started (by kernel_rfl) Try.func6
    (ChangeSpec.witness6 (enc := enc) (C := Try.checked) false ⟨#[], #[.slice none 0 0, .int .i64 0, .int .i64 0], []⟩ 8 (by kernel_rfl) (by kernel_rfl) (by kernel_rfl) (by kernel_rfl))
    rfl rfl Try.underlying4 laid (of_decide_eq_true (by kernel_rfl)) ?_ ?_
  · intro ds hl
    rw [Try.params6] at hl
    match ds, hl with
    | [d0, d1, d2], _ => rfl
  · intro W base args ds ps hval hA hlt hz
    rw [Try.params6] at hA hval
    obtain ⟨v0, vs0, d0, ds0, p0, q0, hargs, rfl, rfl, h0, r0⟩ := trodAll_cons hA
    obtain ⟨v1, vs1, d1, ds1, p1, q1, rfl, rfl, rfl, h1, r1⟩ := trodAll_cons r0
    obtain ⟨v2, vs2, d2, ds2, p2, q2, rfl, rfl, rfl, h2, r2⟩ := trodAll_cons r1
    obtain ⟨rfl, rfl, rfl⟩ := trodAll_nil r2
    obtain rfl : args = #[v0, v1, v2] := by cases args; simp_all
    obtain ⟨A0, n0, cap0, zs0, rfl, hl0, hm0, hn0, hN0, hw0⟩ := open_nums Try.underlying22 Try.underlying3 (by kernel_rfl) (hval 0 22 v0 rfl rfl) h0
    obtain ⟨a1, rfl, rfl, rfl, w1⟩ := open_int Try.underlying3 (hval 1 3 v1 rfl rfl) h1
    obtain ⟨a2, rfl, rfl, rfl, w2⟩ := open_int Try.underlying3 (hval 2 3 v2 rfl rfl) h2
    exact walk W A0 n0 cap0 zs0 hl0 hm0 hn0 hN0 hw0 a1 w1 a2 w2

theorem over : Rows.satMeanRow.holds Try.pinned (OpenSpec.ofChange Rows.satMeanSpec) :=
  OpenClaim.holds_of_wide 6 Try.f6 rfl rfl rfl rfl rfl rfl rfl ⟨rfl, rfl, rfl, rfl, rfl⟩ rfl rfl rfl rfl rfl (by kernel_rfl) Try.func6 (by kernel_rfl)
    (of_decide_eq_true (by kernel_rfl)) (by unfold Func.isWrapper; first | (rw [if_pos (by decide +kernel)]; kernel_rfl) | (rw [if_neg (by decide +kernel)]; exact ⟨rfl, rfl⟩))
    (fun os started H enc _ => lifted os started H enc)

theorem proved : Rows.SatMeanSaid := over
#print axioms proved
end Go.Proofs.Ytefncobjndhhdaa.satMean
