/- WireOnce holds for any bytes and any byte: what is read is right, and its bytes are what was read; neither a beginning of them, nor they with more behind, are a packet's. No condition. -/
import Derived.Test.YtnfdfnkhjlkdhaaWireLaw
import Derived.Test.YtnfdfnkhjlkdhaaWireMath3
namespace Go.Proofs.Ytnfdfnkhjlkdhaa.wireOnce
open Go.ChangeShapes Go.WideShapes Go.ChangeAt Go.RowKit

theorem rng_rd {x : Pt5} (hx : x.Ok) {rest : List Int} {f : Bool} {q : Pk} (hq : q.Rng) (hb : ∀ z ∈ rest, 0 ≤ z ∧ z ≤ 255) : (x.rd rest f q).Rng := by
  unfold Pt5.rd
  split
  · rename_i hj
    intro i
    have hbe : 0 ≤ be (ntake rest f (x.am : Int)) ∧ be (ntake rest f (x.am : Int)) ≤ 9223372036854775807 := by
      obtain ⟨h1, h2⟩ := be_bd _ (ntake rest f (x.am : Int)) rfl (ntake_bytes hb)
      have hl : (ntake rest f (x.am : Int)).length ≤ 6 := by
        have ha : x.am ≤ 4 := by
          unfold Pt5.am
          rw [if_pos hj]
          rcases hx.sz hj with h | h <;> (rw [h]; decide)
        unfold ntake
        split
        · exact Nat.zero_le _
        · rw [List.length_take]; omega
      have := pow_le hl
      omega
    have e : ({ q with h := q.h.set x.j (be (ntake rest f (x.am : Int))) } : Pk).h.getD i 0 = be (ntake rest f (x.am : Int)) ∨ ({ q with h := q.h.set x.j (be (ntake rest f (x.am : Int))) } : Pk).h.getD i 0 = q.h.getD i 0 := by
      by_cases hi : x.j = i
      · subst hi
        by_cases hl : x.j < q.h.length
        · left; simp [List.getD, List.getElem?_set_self hl]
        · right; rw [List.set_eq_of_length_le (by omega)]
      · right; simp [List.getD, List.getElem?_set_ne hi]
    rcases e with e | e
    · rw [e]; omega
    · rw [e]; exact hq i
  · split
    · exact hq
    · split <;> exact hq
theorem rng_go : ∀ (l : List Pt5) (d : Dst), (∀ x ∈ l, x.Ok) → d.Fine → d.q.Rng → (d.go l).q.Rng
  | [], _, _, _, h => h
  | x :: r, d, ho, hf, h => rng_go r (d.step x) (fun y hy => ho y (List.mem_cons_of_mem _ hy)) (hf.step x) (rng_rd (ho x (List.mem_cons_self ..)) h hf.by1)
theorem dec_rng {bs : List Int} (hb : ∀ x ∈ bs, 0 ≤ x ∧ x ≤ 255) (hl : bs.length ≤ 1000000) (h : decOk bs = true) : (decPk bs).Rng := by
  have e : decPk bs = (dec1 bs).q := by unfold decPk; rw [h]; rfl
  rw [e]
  refine rng_go _ _ (held_ok _) (dec0_fine hb hl) (fun i => ?_)
  have hk : 0 ≤ dKind bs ∧ dKind bs ≤ 255 := by
    obtain ⟨h1, h2⟩ := be_bd _ (ntake bs false 1) rfl (ntake_bytes hb)
    have hl : (ntake bs false 1).length ≤ 1 := by
      unfold ntake
      split
      · exact Nat.zero_le _
      · rw [List.length_take]; omega
    have h3 : (ntake bs false 1).length = 0 ∨ (ntake bs false 1).length = 1 := by omega
    unfold dKind
    rcases h3 with h3 | h3 <;> (rw [h3] at h2; simp at h2; omega)
  show -9223372036854775808 ≤ (pkBare (dKind bs)).h.getD i 0 ∧ (pkBare (dKind bs)).h.getD i 0 ≤ 9223372036854775807
  unfold pkBare
  rcases i with _ | i
  · simp; omega
  · have : ((List.replicate 12 (0 : Int)).set 0 (dKind bs)).getD (i + 1) 0 = 0 := by
      show ((dKind bs :: List.replicate 11 (0 : Int))[i + 1]?).getD 0 = 0
      rw [List.getElem?_cons_succ, List.getElem?_replicate]
      split <;> rfl
    rw [this]; decide
set_option maxRecDepth 100000 in
set_option maxHeartbeats 4000000 in
theorem walk (w : World) (A : Option Addr) (n cap : Nat) (zs : List Int) (hl : n ≤ cap) (hm : cap ≤ maxLen) (hn : zs.length = n) (hN : Nums .u8 w A zs) (hw : ∀ z ∈ zs, (Lit.int .u8 z).wf = true) (c : Int) (wc : (Lit.int .u8 c).wf = true) :
    Calls Try.prog 5 #[.slice A n cap, .int .u8 c] w fun e w' => e = .returned (.bool true) ∧ Below w.heap.size w w' := by
  have HN := Lib.hid hN
  have Hn := Lib.hid hn
  have HW := Lib.hid (show ∀ z ∈ zs, 0 ≤ z ∧ z ≤ 255 from fun z hz => by have := byte_in (hw z hz); omega)
  have hcb := byte_in wc
  have HC := Lib.hid (And.intro hl hm)
  have HW2 := Lib.hid (show ∀ z ∈ zs ++ [c], 0 ≤ z ∧ z ≤ 255 from fun z hz => by
    rw [List.mem_append] at hz
    rcases hz with hz | hz
    · exact HW.out z hz
    · rw [List.mem_singleton.1 hz]; omega)
  clear hN hn hw wc hcb
  by_cases h3 : 200 < n
  · clear hl hm
    go_enter Try.func5, Try.ntmps5
    go_wp2_with (go_at_call 10; refine (small_any _).mono ?_; rintro e w1 ⟨rfl, hB1⟩)
    go_ret
    exact ⟨rfl, hB1⟩
  · have h1 : n ≤ 200 := by omega
    have d1 : decide ((200 : Int) < (n : Int)) = false := decide_eq_false (by omega)
    have zpk := zero_pk
    clear h3
    have HL := Lib.hid (show zs.length ≤ 1000000 by rw [Hn.out]; omega)
    cases hok : decOk zs
    · have Hok := Lib.hid hok
      have pkn0 := fun W => pk_new pk0_wf W
      have L0 : (pcs pk0).length = 36 := pcs_len pk0_wf
      have EQ := fun W => eql_pk W pk0_wf pk0_wf
      rw [decide_eq_true rfl] at EQ
      clear hok hl hm
      go_enter Try.func5, Try.ntmps5
      go_wp2_with fail
      refine (small_any _).mono ?_
      rintro e w1 ⟨rfl, B1⟩
      go_wp2_with fail
      refine (dec_any zs HW.out HL.out _ A n cap Hn.out (HN.out.below B1) pk0 (decPk_bad Hok.out) 2 (by rw [Hok.out]; rfl)).mono ?_
      rintro e w2 ⟨rfl, hB⟩
      have B2 := B1.trans (hB.mono B1.size)
      clear hB B1
      go_upto_region 5 with (fail)
      have R6 := row_new (W := w2) (cs := (pcs pk0).toArray) (t := pkT) (m := (0, 0))
      have B3 := B2.alloc B2.size (.cells (pcs pk0).toArray pkT)
      generalize w2.alloc (.cells (pcs pk0).toArray pkT) = V at R6 B3 ⊢
      clear pkn0 B2
      go_wp2_with (first
        | ((refine wpl_pk ?_ (.tmp 6) ?_ w2.heap.size pk0 pk0_wf ?_ R6 ?_); (rfl); (rfl); (rfl)))
      go_ret
      exact ⟨rfl, B3⟩
    · obtain ⟨hright, henc, -, hpos⟩ := dec_back HW.out HL.out hok
      have hqr := dec_rng HW.out HL.out hok
      have hqw := decPk_wf HW.out HL.out
      have Hpre := Lib.hid (show ∀ i, i < n → decOk (zs.take i) = false from fun i hi => by
        cases hd : decOk (zs.take i)
        · rfl
        · exact (dec_apart (a := zs.take i) (b := zs.drop i) (by rw [List.take_append_drop]; exact HW.out) (by rw [List.take_append_drop]; exact HL.out) (fun h0 => by
            have := congrArg List.length h0
            rw [List.length_drop, Hn.out] at this
            simp at this; omega) hd (by rw [List.take_append_drop]; exact hok)).elim)
      have Hext := Lib.hid (show decOk (zs ++ [c]) = false by
        cases hd : decOk (zs ++ [c])
        · rfl
        · exact (dec_apart (a := zs) (b := [c]) HW2.out (by rw [List.length_append, Hn.out]; simp; omega) (by simp) hok hd).elim)
      obtain ⟨q, hq⟩ : ∃ q, decPk zs = q := ⟨_, rfl⟩
      rw [hq] at hright henc hqr hqw
      rw [Hn.out] at hpos
      have HQ := Lib.hid hqw
      have HQR := Lib.hid hqr
      have Hright := Lib.hid hright
      have Henc := Lib.hid henc
      have Hq := Lib.hid hq
      have Hok := Lib.hid hok
      have pkn := fun W => pk_new hqw W
      have pkn0 := fun W => pk_new pk0_wf W
      have L0 : (pcs pk0).length = 36 := pcs_len pk0_wf
      have Lq : (pcs q).length = 36 := pcs_len hqw
      obtain ⟨i0, hi, hz0, hz1, hz2⟩ := info_parts info8
      have HI := Lib.hid (And.intro hi (And.intro hz0 (And.intro hz1 hz2)))
      clear hright henc hqr hqw hq hok hi hz0 hz1 hz2
      go_enter Try.func5, Try.ntmps5
      go_wp2_with fail
      refine (small_any _).mono ?_
      rintro e w1 ⟨rfl, B1⟩
      go_wp2_with fail
      refine (dec_any zs HW.out HL.out _ A n cap Hn.out (HN.out.below B1) q Hq.out 0 (by rw [Hok.out]; rfl)).mono ?_
      rintro e w2 ⟨rfl, hB⟩
      have B2 := B1.trans (hB.mono B1.size)
      clear hB B1
      go_upto_region 5 with (fail)
      have R6 := row_new (W := w2) (cs := (pcs q).toArray) (t := pkT) (m := (0, 0))
      have B3 := B2.alloc B2.size (.cells (pcs q).toArray pkT)
      generalize w2.alloc (.cells (pcs q).toArray pkT) = V at R6 B3 ⊢
      clear B2
      go_wp2_with (first
        | ((refine wpl_pk ?_ (.tmp 6) ?_ w2.heap.size q HQ.out ?_ R6 ?_); (rfl); (rfl); (rfl)))
      refine (enc_ok q HQ.out HQR.out Hright.out _).mono ?_
      rintro e w3 ⟨A3, c3, rfl, hO3, hB⟩
      rw [Henc.out, Hn.out]
      rw [Henc.out] at hO3
      have R6 := row_kept R6 hB (row_lt R6)
      have B4 := B3.trans (hB.mono B3.size)
      have HS := Lib.hid (And.intro R6 (And.intro B4 hO3.nums))
      clear hB B3 hO3 R6 B4 pkn
      go_wp2_with fail
      go_loopw [10] (fun i wr => ∃ k : Nat, k ≤ n ∧ i = .int .i64 k ∧ wr.heap[w2.heap.size]? = some (.cells (pcs q).toArray pkT) ∧ Below w.heap.size w wr ∧ Nums .u8 wr A3 zs) (fun i _ => n - (intOf i).toNat)
      case atStart => exact ⟨0, Nat.zero_le _, rfl, HS.out.1, HS.out.2.1, HS.out.2.2⟩
      case round =>
        obtain ⟨k, hk, rfl, R6, hB, N3⟩ := hrel
        clear HS
        by_cases hkn : k < n
        · have q0 : (0 : Int) ≤ (k : Int) := by omega
          have q1 : (k : Int) < (n : Int) := by omega
          have q2 : (n : Int) ≤ 200 := by omega
          have q3 : k ≤ cap := by omega
          have Hk := Lib.hid (Hpre.out k hkn)
          have N3 := Lib.hid N3
          go_wp2_with fail
          refine (dec_any (zs.take k) (fun z hz => HW.out z (List.mem_of_mem_take hz)) (by rw [List.length_take]; have := HL.out; omega) _ A k cap (by rw [List.length_take, Hn.out]; omega) ((HN.out.below hB).take k) pk0 (decPk_bad Hk.out) 2 (by rw [Hk.out]; rfl)).mono ?_
          rintro e w4 ⟨rfl, hb⟩
          have R6 := row_kept R6 hb (row_lt R6)
          have N4 := N3.out.below hb
          have B5 := hB.trans (hb.mono hB.size)
          clear hb hB N3
          go_upto_region 12 with (fail)
          have AN := (Below.refl w4.heap.size w4).alloc (Nat.le_refl _) (.cells (pcs pk0).toArray pkT)
          have R6 := row_kept R6 AN (row_lt R6)
          have N5 := N4.below AN
          have B6 := B5.trans (AN.mono B5.size)
          generalize w4.alloc (.cells (pcs pk0).toArray pkT) = X at R6 N5 B6 ⊢
          clear AN N4 B5
          go_wp2_with fail
          go_roundw
          case rel => exact ⟨k + 1, by omega, by go_num, R6, B6, N5⟩
          case measure => simp [intOf]; omega
        · obtain rfl : k = n := by omega
          have HN3 := Lib.hid N3
          go_wp2_with (first
            | (at_builtin; refine wpList_append_rowA rfl (.tmp 58) (.tmp 59) 26 rfl i0 1 Try.underlying26 HI.out.1 HI.out.2.1 HI.out.2.2.1 HI.out.2.2.2 (by decide) 0 rfl rfl (OwnN.empty (base := wr.heap.size) (Nat.le_refl _)) A k cap zs rfl Hn.out ((HN.out.below hB).alloc _) (by simp; omega) wr.heap.size wr (Nat.le_refl _) ((Below.refl _ _).alloc (Nat.le_refl _) _) ?_; intro A5 c5 w5 hO5 hB5; rw [Nat.zero_add])
            | (at_builtin; refine wpList_append_row rfl (.tmp 60) (.tmp 62) 26 rfl i0 1 Try.underlying26 HI.out.1 HI.out.2.1 HI.out.2.2.1 HI.out.2.2.2 (by decide) k Hn.out rfl (hO5.alloc _) ⟨w5.heap.size, 0, none⟩ 1 1 [c] rfl rfl (Nums.new _ _ _ _ _ rfl rfl) (by rw [Hn.out]; omega) wr.heap.size wr (Nat.le_refl _) (hB5.alloc hB5.size _) ?_; intro A6 c6 w6 hO6 hB6)
            )
          have NN := hO6.nums
          refine (dec_any (zs ++ [c]) HW2.out (by rw [List.length_append, Hn.out]; simp; omega) _ A6 (k + 1) c6 (by rw [List.length_append, Hn.out]; rfl) NN pk0 (decPk_bad Hext.out) 2 (by rw [Hext.out]; rfl)).mono ?_
          rintro e w7 ⟨rfl, hb⟩
          have u7 := hB6.trans (hb.mono hB6.size)
          have R7 := row_kept R6 u7 (row_lt R6)
          have B7 := hB.trans (u7.mono hB.size)
          have N7 := HN3.out.below u7
          clear hb NN hO6 hO5 hB5 hB6 R6 HN3 u7
          go_upto_region 15 with (fail)
          have AN := (Below.refl w7.heap.size w7).alloc (Nat.le_refl _) (.cells (pcs pk0).toArray pkT)
          have R8 := row_kept R7 AN (row_lt R7)
          have N8 := N7.below AN
          have B8 := B7.trans (AN.mono B7.size)
          generalize w7.alloc (.cells (pcs pk0).toArray pkT) = X at R8 N8 B8 ⊢
          clear AN N7 B7 R7 hB pkn0
          go_wp2_with (first
            | ((refine wpl_pk ?_ (.tmp 6) ?_ w2.heap.size q HQ.out ?_ R8 ?_); (rfl); (rfl); (rfl)))
          refine (right_any q HQ.out _).mono ?_
          rintro e w9 ⟨rfl, hb⟩
          rw [Hright.out]
          have N9 := N8.below hb
          have B9 := B8.trans (hb.mono B8.size)
          have NZ := HN.out.below B9
          obtain ⟨T, hT⟩ : ∃ T, strOfNums zs = T := ⟨_, rfl⟩
          have T1 : (convert 26 9 (.slice A3 k c3)).run Try.prog w9 = .ok (.string T) w9 := by
            rw [← hT]; exact text_of_nums Try.underlying26 Try.underlying5 Try.underlying9 N9 Hn.out
          have T2 : (convert 26 9 (.slice A k cap)).run Try.prog w9 = .ok (.string T) w9 := by
            rw [← hT]; exact text_of_nums Try.underlying26 Try.underlying5 Try.underlying9 NZ Hn.out
          clear hT N9 NZ hb N8 B8 R8
          go_wp2
          go_ret
          exact ⟨ret_bool (by simp), B9⟩
theorem own : ownKnob Try.prog.godebug = none := by kernel_rfl
theorem laid : laidOutB Try.prog = true := by kernel_rfl

set_option maxRecDepth 100000 in
theorem lifted (os : Os) (started : os.Started) (H : Type) (enc : TypeId × Value → H) :
    ReturnsInHanded {} Try.checked os 5 .any (Rows.wireOnceSpec.pre6 enc Try.prog Try.f5 Rows.wireOnceRow.domain false) (Rows.wireOnceSpec.post enc Try.prog Try.f5 false true false false) := by
  refine law_lifted (C := Try.checked) (B := 4) own started (by kernel_rfl) Try.func5
    (ChangeSpec.witness6 (enc := enc) (C := Try.checked) false ⟨#[], #[.slice none 0 0, .int .u8 0], []⟩ 8 (by kernel_rfl) (by kernel_rfl) (by kernel_rfl) (by kernel_rfl))
    rfl rfl Try.underlying4 laid (of_decide_eq_true (by kernel_rfl)) ?_ ?_
  · intro ds hl
    rw [Try.params5] at hl
    match ds, hl with
    | [d0, d1], _ => rfl
  · intro W base args ds ps hval hA hlt hz
    rw [Try.params5] at hA hval
    obtain ⟨v0, vs0, d0, ds0, p0, q0, hargs, rfl, rfl, h0, r0⟩ := trodAll_cons hA
    obtain ⟨v1, vs1, d1, ds1, p1, q1, rfl, rfl, rfl, h1, r1⟩ := trodAll_cons r0
    obtain ⟨rfl, rfl, rfl⟩ := trodAll_nil r1
    obtain rfl : args = #[v0, v1] := by cases args; simp_all
    obtain ⟨A0, n0, cap0, zs0, rfl, hl0, hm0, hn0, hN0, hw0⟩ := open_nums Try.underlying26 Try.underlying5 (by kernel_rfl) (hval 0 26 v0 rfl rfl) h0
    obtain ⟨a1, rfl, rfl, rfl, w1⟩ := open_int Try.underlying5 (hval 1 5 v1 rfl rfl) h1
    exact walk W A0 n0 cap0 zs0 hl0 hm0 hn0 hN0 hw0 a1 w1

theorem over : Rows.wireOnceRow.holds Try.pinned (OpenSpec.ofChange Rows.wireOnceSpec) :=
  OpenClaim.holds_of_wide 5 Try.f5 rfl rfl rfl rfl rfl rfl rfl ⟨rfl, rfl, rfl, rfl, rfl⟩ rfl rfl rfl rfl rfl (by kernel_rfl) Try.func5 (by kernel_rfl)
    (of_decide_eq_true (by kernel_rfl)) (by unfold Func.isWrapper; first | (rw [if_pos (by decide +kernel)]; kernel_rfl) | (rw [if_neg (by decide +kernel)]; exact ⟨rfl, rfl⟩))
    (fun os started H enc _ => lifted os started H enc)

theorem proved : Rows.WireOnceSaid := over
#print axioms proved
end Go.Proofs.Ytnfdfnkhjlkdhaa.wireOnce
