/- SatOrder holds for all three numbers and all numbers: the order of what is added, or multiplied, does not matter, nor how it is grouped, and what was added may be taken away, if nothing was cut off. No condition. -/
import Derived.Test.YtefncobjndhhdaaSat
import Derived.Deep.RegionWith
namespace Go.Proofs.Ytefncobjndhhdaa.satOrder
open Go.ChangeShapes Go.WideShapes Go.ChangeAt Go.RowKit

theorem info : (Try.prog.info? 3).map (fun i => (i.zero, i.size, i.bytes)) = some (some (.int .i64 0), 1, 8) := by kernel_rfl

theorem rev_step (zs : List Int) (k : Nat) (hk : k < zs.length) : (zs.drop k).reverse = (zs.drop (k + 1)).reverse ++ [zs.getD k 0] := by
  rw [List.drop_eq_getElem_cons hk, List.reverse_cons]
  simp [List.getD, hk]

set_option maxHeartbeats 1000000 in
theorem walk (w : World) (a : Int) (wa : (Lit.int .i64 a).wf = true) (b : Int) (wb : (Lit.int .i64 b).wf = true) (c : Int) (wc : (Lit.int .i64 c).wf = true)
    (A : Option Addr) (n cap : Nat) (zs : List Int) (hl : n ≤ cap) (hm : cap ≤ maxLen) (hn : zs.length = n) (hN : Nums .i64 w A zs) (hw : ∀ z ∈ zs, (Lit.int .i64 z).wf = true) :
    Calls Try.prog 5 #[.int .i64 a, .int .i64 b, .int .i64 c, .slice A n cap] w fun e w' => e = .returned (.bool true) ∧ Below w.heap.size w w' := by
  clear wa wb wc hw
  have Hn := Lib.hid hn
  have HN := Lib.hid hN
  unfold maxLen at hm
  clear hn hN
  obtain ⟨i0, hi, hz0, hz1, hz2⟩ := info_parts info
  have HI := Lib.hid (And.intro hi (And.intro hz0 (And.intro hz1 hz2)))
  clear hi hz0 hz1 hz2
  by_cases h : 1000 < n
  · go_enter Try.func5, Try.ntmps5
    go_wp2_with (first
      | (go_at_call 11; refine (small_any _).mono ?_; rintro e w' ⟨rfl, hb⟩)
      | (go_at_call 12; refine (clamp_any _ _).mono ?_; rintro e w' ⟨rfl, rfl⟩)
      | (go_at_call 14; refine (add_any _ _ _).mono ?_; rintro e w' ⟨rfl, rfl⟩)
      | (go_at_call 16; refine (sub_any _ _ _).mono ?_; rintro e w' ⟨rfl, rfl⟩)
      | (go_at_call 18; refine (mul_any _ _ _).mono ?_; rintro e w' ⟨rfl, rfl⟩)
      )
    go_ret
    exact ⟨rfl, hb⟩
  · go_enter Try.func5, Try.ntmps5
    go_wp2_with (first
      | (go_at_call 11; refine (small_any _).mono ?_; rintro e w' ⟨rfl, hb⟩)
      | (go_at_call 12; refine (clamp_any _ _).mono ?_; rintro e w' ⟨rfl, rfl⟩)
      | (go_at_call 14; refine (add_any _ _ _).mono ?_; rintro e w' ⟨rfl, rfl⟩)
      | (go_at_call 16; refine (sub_any _ _ _).mono ?_; rintro e w' ⟨rfl, rfl⟩)
      | (go_at_call 18; refine (mul_any _ _ _).mono ?_; rintro e w' ⟨rfl, rfl⟩)
      )
    go_loopw [10, 11] (fun v i wr => ∃ (k q : Nat) (A' : Option Addr) (c' : Nat), q + k = n ∧ i = .int .i64 ((k : Int) - 1) ∧ v = .slice A' q c' ∧ OwnN .i64 3 w'.heap.size wr A' c' (zs.drop k).reverse ∧ Below w.heap.size w wr) (fun _ i _ => (intOf i + 1).toNat)
    case atStart => exact ⟨n, 0, none, 0, by omega, rfl, rfl, by rw [List.drop_of_length_le (by rw [Hn.out]; exact Nat.le_refl _)]; exact OwnN.nil (Nat.le_refl _), hb⟩
    case round =>
      obtain ⟨k, q, A', c', hq, rfl, rfl, hO, hbr⟩ := hrel
      have HO := Lib.hid hO
      have Hq := Lib.hid hq
      have hq2 : q ≤ n := by omega
      clear hO hq
      rcases k with _ | k
      · obtain rfl : q = n := by have := Hq.out; omega
        have hO2 : OwnN .i64 3 w'.heap.size wr A' c' zs.reverse := by have := HO.out; rwa [List.drop_zero] at this
        have HO2 := Lib.hid hO2
        clear hO2
        have e1 : (Sat.add a b == Sat.add b a) = true := by rw [Sat.add_comm]; exact beq_self_eq_true _
        have e2 : (Sat.mul a b == Sat.mul b a) = true := by rw [Sat.mul_comm]; exact beq_self_eq_true _
        have e3 : (Sat.add (Sat.add a b) c == Sat.add a (Sat.add b c)) = true := by rw [Sat.add_assoc]; exact beq_self_eq_true _
        have e4 : (Sat.sum zs.reverse == Sat.sum zs) = true := by rw [Sat.sum_reverse]; exact beq_self_eq_true _
        have e5 : (Sat.sum (zs.reverse ++ [a]) == Sat.add (Sat.sum zs) a) = true := by rw [Sat.sum_back]; exact beq_self_eq_true _
        by_cases hs : Sat.add a b < 1099511627776
        · have e6 : (Sat.sub (Sat.add a b) b != Sat.clamp a) = false := by rw [Sat.sub_back a b hs]; simp
          go_wp2_with (first
            | (go_at_call 11; refine (small_any _).mono ?_; rintro e w' ⟨rfl, hb⟩)
            | (go_at_call 12; refine (clamp_any _ _).mono ?_; rintro e w' ⟨rfl, rfl⟩)
            | (go_at_call 14; refine (add_any _ _ _).mono ?_; rintro e w' ⟨rfl, rfl⟩)
            | (go_at_call 16; refine (sub_any _ _ _).mono ?_; rintro e w' ⟨rfl, rfl⟩)
            | (go_at_call 18; refine (mul_any _ _ _).mono ?_; rintro e w' ⟨rfl, rfl⟩)
            | (go_at_call_of 20 A; refine (sum_any _ _ _ zs _ Hn.out (by omega) (HN.out.below hbr)).mono ?_; rintro e w' ⟨rfl, rfl⟩)
            | (go_at_call_of 20 A'; refine (sum_any _ _ _ zs.reverse _ (by rw [List.length_reverse, Hn.out]) (by omega) HO2.out.nums).mono ?_; rintro e w' ⟨rfl, rfl⟩)
            | (at_builtin; refine wpList_append_num rfl _ _ 22 rfl i0 8 Try.underlying22 HI.out.1 HI.out.2.1 HI.out.2.2.1 HI.out.2.2.2 (by decide) q (by rw [List.length_reverse, Hn.out]) rfl (HO2.out.alloc _) ⟨wr.heap.size, 0, none⟩ _ a rfl (by simp) (by rw [List.length_reverse, Hn.out]; omega) w.heap.size w hb.size (hbr.alloc hbr.size _) ?_; intro A2 c2 w2 hO3 hb2)
            )
          have HO3 := Lib.hid hO3
          clear hO3
          refine (sum_any _ _ _ (zs.reverse ++ [a]) _ (by rw [List.length_append, List.length_reverse, Hn.out]; rfl) (by omega) HO3.out.nums).mono ?_
          rintro e w' ⟨rfl, rfl⟩
          go_wp2_with (first
            | (go_at_call_of 20 A; refine (sum_any _ _ _ zs _ Hn.out (by omega) (HN.out.below hb2)).mono ?_; rintro e w' ⟨rfl, rfl⟩)
            | (go_at_call 14; refine (add_any _ _ _).mono ?_; rintro e w' ⟨rfl, rfl⟩)
            )
          go_ret
          exact ⟨rfl, hb2⟩
        · have e6 : decide (Sat.add a b < 1099511627776) = false := decide_eq_false hs
          go_wp2_with (first
            | (go_at_call 11; refine (small_any _).mono ?_; rintro e w' ⟨rfl, hb⟩)
            | (go_at_call 12; refine (clamp_any _ _).mono ?_; rintro e w' ⟨rfl, rfl⟩)
            | (go_at_call 14; refine (add_any _ _ _).mono ?_; rintro e w' ⟨rfl, rfl⟩)
            | (go_at_call 16; refine (sub_any _ _ _).mono ?_; rintro e w' ⟨rfl, rfl⟩)
            | (go_at_call 18; refine (mul_any _ _ _).mono ?_; rintro e w' ⟨rfl, rfl⟩)
            | (go_at_call_of 20 A; refine (sum_any _ _ _ zs _ Hn.out (by omega) (HN.out.below hbr)).mono ?_; rintro e w' ⟨rfl, rfl⟩)
            | (go_at_call_of 20 A'; refine (sum_any _ _ _ zs.reverse _ (by rw [List.length_reverse, Hn.out]) (by omega) HO2.out.nums).mono ?_; rintro e w' ⟨rfl, rfl⟩)
            | (at_builtin; refine wpList_append_num rfl _ _ 22 rfl i0 8 Try.underlying22 HI.out.1 HI.out.2.1 HI.out.2.2.1 HI.out.2.2.2 (by decide) q (by rw [List.length_reverse, Hn.out]) rfl (HO2.out.alloc _) ⟨wr.heap.size, 0, none⟩ _ a rfl (by simp) (by rw [List.length_reverse, Hn.out]; omega) w.heap.size w hb.size (hbr.alloc hbr.size _) ?_; intro A2 c2 w2 hO3 hb2)
            )
          have HO3 := Lib.hid hO3
          clear hO3
          refine (sum_any _ _ _ (zs.reverse ++ [a]) _ (by rw [List.length_append, List.length_reverse, Hn.out]; rfl) (by omega) HO3.out.nums).mono ?_
          rintro e w' ⟨rfl, rfl⟩
          go_wp2_with (first
            | (go_at_call_of 20 A; refine (sum_any _ _ _ zs _ Hn.out (by omega) (HN.out.below hb2)).mono ?_; rintro e w' ⟨rfl, rfl⟩)
            | (go_at_call 14; refine (add_any _ _ _).mono ?_; rintro e w' ⟨rfl, rfl⟩)
            )
          go_ret
          exact ⟨rfl, hb2⟩
      · have hk : k < n := by have := Hq.out; omega
        rw [show ((k + 1 : Nat) : Int) - 1 = (k : Int) from by omega]
        rcases HN.out with h0 | ⟨b0, off, rfl, hlt, hc⟩
        · have := Hn.out; rw [h0] at this; simp at this; omega
        have hcell : wr.cell? ⟨b0, off + k, none⟩ = some (.int .i64 (zs.getD k 0)) := (hbr.cell (p := ⟨b0, off + k, none⟩) hlt).trans (hc k (by rw [Hn.out]; exact hk))
        have Hs := Lib.hid (rev_step zs k (by rw [Hn.out]; exact hk))
        clear hc
        generalize zs.getD k 0 = z at hcell Hs
        go_wp2_with (first
          | (at_builtin; refine wpList_append_num rfl _ _ 22 rfl i0 8 Try.underlying22 HI.out.1 HI.out.2.1 HI.out.2.2.1 HI.out.2.2.2 (by decide) q (by rw [List.length_reverse, List.length_drop, Hn.out]; have := Hq.out; omega) rfl (HO.out.alloc _) ⟨wr.heap.size, 0, none⟩ _ z rfl (by simp) (by rw [List.length_reverse, List.length_drop, Hn.out]; omega) w.heap.size w hb.size (hbr.alloc hbr.size _) ?_; intro A2 c2 w2 hO2 hb2)
          )
        go_roundw
        case rel => exact ⟨k, q + 1, A2, c2, by have := Hq.out; omega, rfl, rfl, by rw [Hs.out]; exact hO2, hb2⟩
        case measure => simp [intOf]

theorem own : ownKnob Try.prog.godebug = none := by kernel_rfl
theorem laid : laidOutB Try.prog = true := by kernel_rfl

set_option maxRecDepth 100000 in
theorem lifted (os : Os) (started : os.Started) (H : Type) (enc : TypeId × Value → H) :
    ReturnsInHanded {} Try.checked os 5 .any (Rows.satOrderSpec.pre6 enc Try.prog Try.f5 Rows.satOrderRow.domain false) (Rows.satOrderSpec.post enc Try.prog Try.f5 false true false false) := by
  refine law_lifted (C := Try.checked) (B := 4) own started (by kernel_rfl) Try.func5
    (ChangeSpec.witness6 (enc := enc) (C := Try.checked) false ⟨#[], #[.int .i64 0, .int .i64 0, .int .i64 0, .slice none 0 0], []⟩ 8 (by kernel_rfl) (by kernel_rfl) (by kernel_rfl) (by kernel_rfl))
    rfl rfl Try.underlying4 laid (of_decide_eq_true (by kernel_rfl)) ?_ ?_
  · intro ds hl
    rw [Try.params5] at hl
    match ds, hl with
    | [d0, d1, d2, d3], _ => rfl
  · intro W base args ds ps hval hA hlt hz
    rw [Try.params5] at hA hval
    obtain ⟨v0, vs0, d0, ds0, p0, q0, hargs, rfl, rfl, h0, r0⟩ := trodAll_cons hA
    obtain ⟨v1, vs1, d1, ds1, p1, q1, rfl, rfl, rfl, h1, r1⟩ := trodAll_cons r0
    obtain ⟨v2, vs2, d2, ds2, p2, q2, rfl, rfl, rfl, h2, r2⟩ := trodAll_cons r1
    obtain ⟨v3, vs3, d3, ds3, p3, q3, rfl, rfl, rfl, h3, r3⟩ := trodAll_cons r2
    obtain ⟨rfl, rfl, rfl⟩ := trodAll_nil r3
    obtain rfl : args = #[v0, v1, v2, v3] := by cases args; simp_all
    obtain ⟨a0, rfl, rfl, rfl, w0⟩ := open_int Try.underlying3 (hval 0 3 v0 rfl rfl) h0
    obtain ⟨a1, rfl, rfl, rfl, w1⟩ := open_int Try.underlying3 (hval 1 3 v1 rfl rfl) h1
    obtain ⟨a2, rfl, rfl, rfl, w2⟩ := open_int Try.underlying3 (hval 2 3 v2 rfl rfl) h2
    obtain ⟨A3, n3, cap3, zs3, rfl, hl3, hm3, hn3, hN3, hw3⟩ := open_nums Try.underlying22 Try.underlying3 (by kernel_rfl) (hval 3 22 v3 rfl rfl) h3
    exact walk W a0 w0 a1 w1 a2 w2 A3 n3 cap3 zs3 hl3 hm3 hn3 hN3 hw3

theorem over : Rows.satOrderRow.holds Try.pinned (OpenSpec.ofChange Rows.satOrderSpec) :=
  OpenClaim.holds_of_wide 5 Try.f5 rfl rfl rfl rfl rfl rfl rfl ⟨rfl, rfl, rfl, rfl, rfl⟩ rfl rfl rfl rfl rfl (by kernel_rfl) Try.func5 (by kernel_rfl)
    (of_decide_eq_true (by kernel_rfl)) (by unfold Func.isWrapper; first | (rw [if_pos (by decide +kernel)]; kernel_rfl) | (rw [if_neg (by decide +kernel)]; exact ⟨rfl, rfl⟩))
    (fun os started H enc _ => lifted os started H enc)

theorem proved : Rows.SatOrderSaid := over
#print axioms proved
end Go.Proofs.Ytefncobjndhhdaa.satOrder
