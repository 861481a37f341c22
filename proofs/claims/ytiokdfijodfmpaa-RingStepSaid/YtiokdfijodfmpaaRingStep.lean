/- RingStep holds for any room, any numbers, and any one more: it stands behind the others, and the oldest one goes just without room. No condition. -/
import Derived.Test.YtiokdfijodfmpaaRingMath
namespace Go.Proofs.Ytiokdfijodfmpaa.ringStep
open Go.ChangeShapes Go.WideShapes Go.ChangeAt Go.RowKit

theorem want {X2 w5 w6 : World} {xs ys : List Int} {x : Int} {u b5 c5 q : Nat} {E : TypeId} (hl : xs.length = u) (hy : ys = (xs ++ [x]).drop 1) (hc : ¬ c5 = 1) (hO : OwnN .i64 E X2.heap.size w5 (some ⟨b5, 0, none⟩) c5 ([] ++ xs ++ [x])) (hB : Below (w5.drewN q).heap.size (w5.drewN q) w6) : Nums .i64 w6 (some ⟨b5, 1, none⟩) ys := by
  have h := hO.nums.drop 1 c5 (by simp) hO.len.1
  rw [if_neg hc] at h
  subst hy
  exact (Nums.drewN (by simpa [Addr.add] using h) q).below hB

theorem want2 {X2 w5 w6 : World} {xs ys : List Int} {x : Int} {b5 c5 q : Nat} {E : TypeId} (hy : ys = xs ++ [x]) (hO : OwnN .i64 E X2.heap.size w5 (some ⟨b5, 0, none⟩) c5 ([] ++ xs ++ [x])) (hB : Below (w5.drewN q).heap.size (w5.drewN q) w6) : Nums .i64 w6 (some ⟨b5, 0, none⟩) ys := by
  subst hy
  exact (Nums.drewN (by simpa using hO.nums) q).below hB

set_option maxHeartbeats 4000000 in
theorem walk (w : World) (room : Int) (wr' : (Lit.int .i64 room).wf = true)
    (A : Option Addr) (n cap : Nat) (zs : List Int) (hl : n ≤ cap) (hm : cap ≤ maxLen) (hn : zs.length = n) (hN : Nums .i64 w A zs) (hw : ∀ z ∈ zs, (Lit.int .i64 z).wf = true) (x : Int) (wx : (Lit.int .i64 x).wf = true) :
    Calls Try.prog 5 #[.int .i64 room, .slice A n cap, .int .i64 x] w fun e w' => e = .returned (.bool true) ∧ Below w.heap.size w w' := by
  clear wr' wx hw
  obtain ⟨i0, hi, hz0, hz1, hz2⟩ := info_parts info
  have HI := Lib.hid (And.intro hi (And.intro hz0 (And.intro hz1 hz2)))
  clear hi hz0 hz1 hz2
  have Hn := Lib.hid hn
  have HN := Lib.hid hN
  unfold maxLen at hm
  clear hn hN
  by_cases h5 : 500 < n
  · go_enter Try.func5, Try.ntmps5
    go_wp2_with (first
      | (go_at_call 7; refine (small_any _).mono ?_; rintro e w' ⟨rfl, hb⟩)
      )
    all_goals (go_ret; exact ⟨rfl, hb⟩)
  · obtain ⟨c, hc⟩ : ∃ c : Nat, (c : Int) = min (max room 1) 64 := ⟨(min (max room 1) 64).toNat, by omega⟩
    obtain ⟨R, hR⟩ : ∃ R, (RS.made room).pushes zs = R := ⟨_, rfl⟩
    obtain ⟨okR, eR, hhR, lR, listR⟩ := RS.made_pushes room c hc zs (by rw [Hn.out]; omega) n (by rw [Hn.out]; exact Nat.le_refl _)
    rw [List.take_of_length_le (by rw [Hn.out]; exact Nat.le_refl _), hR] at okR eR hhR lR listR
    have HR := Lib.hid hR
    obtain ⟨S, hS⟩ : ∃ S, R.pushes [x] = S := ⟨_, rfl⟩
    have hS' : R.push x = S := hS
    have okS := (RS.push_ok okR (by omega) x).1
    have listS := RS.push_list okR (by omega) x
    have lastS := RS.push_last (R := R) x
    obtain ⟨hhS, lS⟩ := RS.push_h okR x
    rw [hS'] at okS listS lastS hhS lS
    have HS := Lib.hid hS
    have OKR := Lib.hid okR
    have OKS := Lib.hid okS
    have LAST := Lib.hid lastS
    obtain ⟨v, hv, hvn⟩ : ∃ v : Nat, R.h = v ∧ v = min n c := ⟨_, hhR, rfl⟩
    have hlen : R.list.length = v := by rw [RS.list_len, hv]; rfl
    obtain ⟨u, hu⟩ : ∃ u : Nat, S.h = u := ⟨S.h.toNat, by have := okS.h0; omega⟩
    have HU := Lib.hid hu
    have hlenS : S.list.length = u := by rw [RS.list_len, hu]; rfl
    have h0 : 0 < S.h := by have := okR.h0; have := okR.e0; omega
    have H0 := Lib.hid h0
    generalize hxs : R.list = xs at hlen listS
    generalize hys : S.list = ys at listS hlenS
    have HXS := Lib.hid hxs
    have HYS := Lib.hid hys
    have HLEN := Lib.hid hlen
    have HLENS := Lib.hid hlenS
    obtain ⟨l0, hl0⟩ : ∃ l0, R.l = l0 := ⟨_, rfl⟩
    obtain ⟨l1, hl1⟩ : ∃ l1, S.l = l1 := ⟨_, rfl⟩
    have HL0 := Lib.hid hl0
    have HL1 := Lib.hid hl1
    have vl : v ≤ 64 := by omega
    have hAg : ∀ w1 : World, w.heap.size ≤ w1.heap.size → 0 < n → ∀ b off, A = some ⟨b, off, none⟩ → b ≠ w1.heap.size := by
      intro w1 h1 h2 b off hA
      rcases HN.out with h0 | ⟨b', off', hA', hlt, -⟩
      · have := Hn.out; rw [h0] at this; simp at this; omega
      · rw [hA] at hA'; injection hA' with hA'; injection hA' with hA'; omega
    have HAG := Lib.hid hAg
    have HR0 := Lib.hid (show (RS.made room).l + (n : Int) ≤ 1099511627776 by unfold RS.made; simp only; omega)
    have lb0 : 0 ≤ l0 ∧ l0 ≤ 1000 := by omega
    have HR1 := Lib.hid (show R.l + ((1 : Nat) : Int) ≤ 1099511627776 by omega)
    by_cases hf : c ≤ n
    · have hvc : (v : Int) = max 1 (min room 64) := by omega
      have hl : l1 = l0 + 1 := by omega
      have hy : ys = (xs ++ [x]).drop 1 := by
        rw [listS, if_pos (by omega), List.drop_append_of_le_length (by omega)]
      have huv : u = v := by omega
      subst huv
      subst hl
      have HY := Lib.hid hy
      have hroom : (64 < room ∧ u = 64) ∨ (room ≤ 1 ∧ u = 1) ∨ (2 ≤ u ∧ u ≤ 64 ∧ room = u) := by omega
      clear okR eR hhR lR listR okS listS lastS hhS lS hv hvn hlen hu hlenS h0 hR hS hS' hl0 hl1 hy hc hxs hys hAg hf hvc
      rcases hroom with ⟨hroom, rfl⟩ | ⟨hroom, rfl⟩ | ⟨hroom, hroom', rfl⟩
      all_goals
        go_enter Try.func5, Try.ntmps5
        go_wp2_with fail
        refine (small_any _).mono ?_
        rintro e w1 ⟨rfl, B1⟩
        go_wp2_with fail
        refine (new_to _ B1 B1.size).mono ?_
        rintro e w2 ⟨rfl, R2, z2, B2, K2⟩
        go_wp2_with fail
        have hg := B1.size
        refine (push_to zs HR.out R2 (made_ok _) _ n _ Hn.out (HN.out.below B2) (by omega) HR0.out (HAG.out w1 hg) B2 hg).mono ?_
        rintro e X ⟨rfl, RX, -, -, BX⟩
        go_wp2_with fail
        refine (all_to HXS.out HLEN.out RX OKR.out).mono ?_
        rintro e w3 ⟨bw, cw, rfl, hO3, hB3⟩
        have R3 := ring_at RX hB3
        have B3 := BX.trans (hB3.mono BX.size)
        have hbw := hO3.block
        have hgX := row_lt RX
        go_wp2_with (first
          | (go_at_call 19; refine (lost_to HL0.out R3).mono ?_; rintro e w' ⟨rfl, rfl⟩)
          )
        refine (push_to [x] HS.out (ring_at R3 ((Below.refl w3.heap.size w3).alloc (Nat.le_refl _) _)) OKR.out _ 1 1 rfl (Nums.new _ _ _ _ _ rfl rfl) (by omega) HR1.out (fun _ b off h => by injection h with h; injection h with h; have := row_lt R3; omega) (B3.alloc B3.size _) hg).mono ?_
        rintro e X2 ⟨rfl, RX2, -, hOn, BX2⟩
        have hwas := hOn.nums (hO3.alloc _).nums (fun b off h => by injection h with h; injection h with h; omega)
        clear hOn R3 hO3 hB3 B3 RX BX R2 z2 B2 K2 B1
        go_wp2_with (first
          | (at_builtin; refine wpList_append_nums rfl _ _ 28 rfl i0 8 Try.underlying28 HI.out.1 HI.out.2.1 HI.out.2.2.1 HI.out.2.2.2 (by decide) 0 rfl rfl (OwnN.empty (base := X2.heap.size) (Nat.le_refl _)) bw _ _ xs rfl HLEN.out (hwas.alloc _) (by simp <;> omega) X2.heap.size X2 (Nat.le_refl _) ((Below.refl _ _).alloc (Nat.le_refl _) _) ?_; intro A4 c4 w4 hO4 hB4)
          | (at_builtin; refine wpList_append_num rfl _ _ 28 rfl i0 8 Try.underlying28 HI.out.1 HI.out.2.1 HI.out.2.2.1 HI.out.2.2.2 (by decide) _ (by rw [List.nil_append]; exact HLEN.out) rfl (hO4.alloc _) ⟨w4.heap.size, 0, none⟩ _ x rfl (by simp) (by simp; have := HLEN.out; omega) X2.heap.size X2 (Nat.le_refl _) (hB4.alloc hB4.size _) ?_; intro A5 c5 w5 hO5 hB5; obtain ⟨b5, rfl⟩ := hO5.at0 (by simp); have hc5 : ¬ c5 = 1 := (by have := hO5.len.1; simp at this; have := HLEN.out; omega))
          | (go_at_call 12; refine (last_to LAST.out (ring_at RX2 hB5) OKS.out H0.out).mono ?_; rintro e w' ⟨rfl, q, rfl⟩)
          | (go_at_call 14; refine (all_to HYS.out HLENS.out ((ring_at RX2 hB5).drewN _) OKS.out).mono ?_; rintro e w6 ⟨b6, c6, rfl, hO6, hB6⟩; have hwant := want HLEN.out HY.out hc5 hO5 hB6; have R6 := ring_at ((ring_at RX2 hB5).drewN _) hB6)
          | (go_at_call 15; refine (same_any _ _ _ _ ys HLENS.out hO6.nums _ _ _ ys HLENS.out hwant (by omega) (by omega)).mono ?_; rintro e w7 ⟨rfl, q7, rfl⟩)
          | (go_at_call 19; refine (lost_to HL1.out (R6.drewN _)).mono ?_; rintro e w' ⟨rfl, rfl⟩)
          | (go_at_call 17; refine (len_to HU.out (R6.drewN _)).mono ?_; rintro e w' ⟨rfl, rfl⟩)
          )
        all_goals (go_ret; have B5 := BX2.trans (hB5.mono BX2.size); exact ⟨rfl, below_drewN ((below_drewN B5 _).trans (hB6.mono B5.size)) _⟩)
    · have hl : l1 = l0 := by omega
      have hy : ys = xs ++ [x] := by rw [listS, if_neg (by omega)]
      have huv : u = v + 1 := by omega
      have HUV := Lib.hid huv
      subst hl
      have HY := Lib.hid hy
      have hroom : (64 < room ∧ v < 64) ∨ (room ≤ 1 ∧ v = 0) ∨ (2 ≤ room ∧ room ≤ 64 ∧ (v : Int) < room) := by omega
      subst huv
      clear HUV okR eR hhR lR listR okS listS lastS hhS lS hv hvn hlen hu hlenS h0 hR hS hS' hl0 hl1 hy hc hxs hys hAg hf
      rcases hroom with ⟨hroom, hv6⟩ | ⟨hroom, rfl⟩ | ⟨hroom, hroom', hv6⟩
      all_goals
        go_enter Try.func5, Try.ntmps5
        go_wp2_with fail
        refine (small_any _).mono ?_
        rintro e w1 ⟨rfl, B1⟩
        go_wp2_with fail
        refine (new_to _ B1 B1.size).mono ?_
        rintro e w2 ⟨rfl, R2, z2, B2, K2⟩
        go_wp2_with fail
        have hg := B1.size
        refine (push_to zs HR.out R2 (made_ok _) _ n _ Hn.out (HN.out.below B2) (by omega) HR0.out (HAG.out w1 hg) B2 hg).mono ?_
        rintro e X ⟨rfl, RX, -, -, BX⟩
        go_wp2_with fail
        refine (all_to HXS.out HLEN.out RX OKR.out).mono ?_
        rintro e w3 ⟨bw, cw, rfl, hO3, hB3⟩
        have R3 := ring_at RX hB3
        have B3 := BX.trans (hB3.mono BX.size)
        have hbw := hO3.block
        have hgX := row_lt RX
        go_wp2_with (first
          | (go_at_call 19; refine (lost_to HL0.out R3).mono ?_; rintro e w' ⟨rfl, rfl⟩)
          )
        refine (push_to [x] HS.out (ring_at R3 ((Below.refl w3.heap.size w3).alloc (Nat.le_refl _) _)) OKR.out _ 1 1 rfl (Nums.new _ _ _ _ _ rfl rfl) (by omega) HR1.out (fun _ b off h => by injection h with h; injection h with h; have := row_lt R3; omega) (B3.alloc B3.size _) hg).mono ?_
        rintro e X2 ⟨rfl, RX2, -, hOn, BX2⟩
        have hwas := hOn.nums (hO3.alloc _).nums (fun b off h => by injection h with h; injection h with h; omega)
        clear hOn R3 hO3 hB3 B3 RX BX R2 z2 B2 K2 B1
        go_wp2_with (first
          | (at_builtin; refine wpList_append_nums rfl _ _ 28 rfl i0 8 Try.underlying28 HI.out.1 HI.out.2.1 HI.out.2.2.1 HI.out.2.2.2 (by decide) 0 rfl rfl (OwnN.empty (base := X2.heap.size) (Nat.le_refl _)) bw _ _ xs rfl HLEN.out (hwas.alloc _) (by simp <;> omega) X2.heap.size X2 (Nat.le_refl _) ((Below.refl _ _).alloc (Nat.le_refl _) _) ?_; intro A4 c4 w4 hO4 hB4)
          | (at_builtin; refine wpList_append_num rfl _ _ 28 rfl i0 8 Try.underlying28 HI.out.1 HI.out.2.1 HI.out.2.2.1 HI.out.2.2.2 (by decide) _ (by rw [List.nil_append]; exact HLEN.out) rfl (hO4.alloc _) ⟨w4.heap.size, 0, none⟩ _ x rfl (by simp) (by simp; have := HLEN.out; omega) X2.heap.size X2 (Nat.le_refl _) (hB4.alloc hB4.size _) ?_; intro A5 c5 w5 hO5 hB5; obtain ⟨b5, rfl⟩ := hO5.at0 (by simp))
          | (go_at_call 12; refine (last_to LAST.out (ring_at RX2 hB5) OKS.out H0.out).mono ?_; rintro e w' ⟨rfl, q, rfl⟩)
          | (go_at_call 14; refine (all_to HYS.out HLENS.out ((ring_at RX2 hB5).drewN _) OKS.out).mono ?_; rintro e w6 ⟨b6, c6, rfl, hO6, hB6⟩; have hwant := want2 HY.out hO5 hB6; have R6 := ring_at ((ring_at RX2 hB5).drewN _) hB6)
          | (go_at_call 15; refine (same_any _ _ _ _ ys HLENS.out hO6.nums _ _ _ ys HLENS.out hwant (by omega) (by omega)).mono ?_; rintro e w7 ⟨rfl, q7, rfl⟩)
          | (go_at_call 19; refine (lost_to HL1.out (R6.drewN _)).mono ?_; rintro e w' ⟨rfl, rfl⟩)
          | (go_at_call 17; refine (len_to HU.out (R6.drewN _)).mono ?_; rintro e w' ⟨rfl, rfl⟩)
          )
        all_goals (go_ret; have B5 := BX2.trans (hB5.mono BX2.size); exact ⟨rfl, below_drewN ((below_drewN B5 _).trans (hB6.mono B5.size)) _⟩)

theorem own : ownKnob Try.prog.godebug = none := by kernel_rfl
theorem laid : laidOutB Try.prog = true := by kernel_rfl

set_option maxRecDepth 100000 in
theorem lifted (os : Os) (started : os.Started) (H : Type) (enc : TypeId × Value → H) :
    ReturnsInHanded {} Try.checked os 5 .any (Rows.ringStepSpec.pre6 enc Try.prog Try.f5 Rows.ringStepRow.domain false) (Rows.ringStepSpec.post enc Try.prog Try.f5 false true false false) := by
  refine law_lifted (C := Try.checked) (B := 4) own started (by kernel_rfl) Try.func5
    (ChangeSpec.witness6 (enc := enc) (C := Try.checked) false ⟨#[], #[.int .i64 0, .slice none 0 0, .int .i64 0], []⟩ 8 (by kernel_rfl) (by kernel_rfl) (by kernel_rfl) (by kernel_rfl))
    rfl rfl Try.underlying4 laid (of_decide_eq_true (by kernel_rfl)) ?_ ?_
  · intro ds hl
    rw [Try.params5] at hl
    match ds, hl with
    | [d0, d1, d2], _ => rfl
  · intro W base args ds ps hval hA hlt hz
    rw [Try.params5] at hA hval
    obtain ⟨v0, vs0, d0, ds0, p0, q0, hargs, rfl, rfl, h0, r0⟩ := trodAll_cons hA
    obtain ⟨v1, vs1, d1, ds1, p1, q1, rfl, rfl, rfl, h1, r1⟩ := trodAll_cons r0
    obtain ⟨v2, vs2, d2, ds2, p2, q2, rfl, rfl, rfl, h2, r2⟩ := trodAll_cons r1
    obtain ⟨rfl, rfl, rfl⟩ := trodAll_nil r2
    obtain rfl : args = #[v0, v1, v2] := by cases args; simp_all
    obtain ⟨a0, rfl, rfl, rfl, w0⟩ := open_int Try.underlying3 (hval 0 3 v0 rfl rfl) h0
    obtain ⟨A1, n1, cap1, zs1, rfl, hl1, hm1, hn1, hN1, hw1⟩ := open_nums Try.underlying28 Try.underlying3 (by kernel_rfl) (hval 1 28 v1 rfl rfl) h1
    obtain ⟨a2, rfl, rfl, rfl, w2⟩ := open_int Try.underlying3 (hval 2 3 v2 rfl rfl) h2
    exact walk W a0 w0 A1 n1 cap1 zs1 hl1 hm1 hn1 hN1 hw1 a2 w2

theorem over : Rows.ringStepRow.holds Try.pinned (OpenSpec.ofChange Rows.ringStepSpec) :=
  OpenClaim.holds_of_wide 5 Try.f5 rfl rfl rfl rfl rfl rfl rfl ⟨rfl, rfl, rfl, rfl, rfl⟩ rfl rfl rfl rfl rfl (by kernel_rfl) Try.func5 (by kernel_rfl)
    (of_decide_eq_true (by kernel_rfl)) (by unfold Func.isWrapper; first | (rw [if_pos (by decide +kernel)]; kernel_rfl) | (rw [if_neg (by decide +kernel)]; exact ⟨rfl, rfl⟩))
    (fun os started H enc _ => lifted os started H enc)

theorem proved : Rows.RingStepSaid := over
#print axioms proved
end Go.Proofs.Ytiokdfijodfmpaa.ringStep
