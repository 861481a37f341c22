/- WireBack holds for any packet: a right packet is read of its bytes as it was, and another one has none. No condition. -/
import Derived.Test.YtnfdfnkhjlkdhaaWireLaw
namespace Go.Proofs.Ytnfdfnkhjlkdhaa.wireBack
open Go.ChangeShapes Go.WideShapes Go.ChangeAt Go.RowKit

theorem enc_size {p : Pk} (hp : p.Wf) (h : p.right = true) : 5 ≤ p.enc.length ∧ p.enc.length ≤ 33 := by
  rw [enc_len hp]
  obtain ⟨-, h2, -⟩ := right_parts h
  rcases held_cases p.kind with h | h | h | h | h | h | h | h | h | h | h | h | h
  case inr.inr.inr.inr.inr.inr.inr.inr.inr.inr.inr.inr => exact absurd (held_none h) h2
  all_goals (rw [h]; decide)
set_option maxRecDepth 100000 in
set_option maxHeartbeats 2000000 in
theorem walk (w : World) (p : Pk) (hp : p.Wf) (hpr : p.Rng) (hps : ∀ z ∈ p.s, 0 ≤ z ∧ z < 256) (hpt : ∀ z ∈ p.t, 0 ≤ z ∧ z < 256) :
    Calls Try.prog 4 #[.agg (pcs p).toArray] w fun e w' => e = .returned (.bool true) ∧ Below w.heap.size w w' := by
  have R0 := row_new (W := w) (cs := (pcs p).toArray) (t := pkT) (m := (0, 0))
  have B0 : Below w.heap.size w (w.alloc (.cells (pcs p).toArray pkT)) := (Below.refl _ _).alloc (Nat.le_refl _) _
  have HP := Lib.hid hp
  have HPR := Lib.hid hpr
  have zpk := zero_pk
  have pkn := fun W => pk_new hp W
  have L := pcs_len hp
  have EQ := fun W => eql_pk W hp hp
  rw [decide_eq_true rfl] at EQ
  have HE := Lib.hid (enc_byte hps hpt)
  have Hdec := Lib.hid (show p.right = true → decOk p.enc = true ∧ decPk p.enc = p from dec_enc hp)
  have Hsz := Lib.hid (show p.right = true → 5 ≤ p.enc.length ∧ p.enc.length ≤ 33 from enc_size hp)
  clear hp hpr hps hpt
  go_enter Try.func4, Try.ntmps4
  go_wp2_with fail
  generalize w.alloc (.cells (pcs p).toArray pkT) = V at R0 B0 ⊢
  refine (small_any V).mono ?_
  rintro e w1 ⟨rfl, hB⟩
  have R0 := row_kept R0 hB (row_lt R0)
  have B1 := B0.trans (hB.mono B0.size)
  clear hB B0
  go_wp2_with (first
    | ((refine wpl_pk ?_ (.tmp 1) ?_ w.heap.size p HP.out ?_ R0 ?_); (rfl); (rfl); (rfl)))
  cases hr : p.right
  · have Hr := Lib.hid hr
    clear hr
    refine (enc_bad p HP.out Hr.out _).mono ?_
    rintro e w2 ⟨rfl, hB⟩
    have R0 := row_kept R0 hB (row_lt R0)
    have B2 := B1.trans (hB.mono B1.size)
    clear hB B1
    go_wp2_with (first
      | ((refine wpl_pk ?_ (.tmp 1) ?_ w.heap.size p HP.out ?_ R0 ?_); (rfl); (rfl); (rfl)))
    refine (right_any p HP.out _).mono ?_
    rintro e w3 ⟨rfl, hB⟩
    have B3 := B2.trans (hB.mono B2.size)
    rw [Hr.out]
    clear hB B2 R0
    go_wp2
    go_ret
    exact ⟨rfl, B3⟩
  · have Hr := Lib.hid hr
    clear hr
    refine (enc_ok p HP.out HPR.out Hr.out _).mono ?_
    rintro e w2 ⟨A', c', rfl, hO, hB⟩
    have R0 := row_kept R0 hB (row_lt R0)
    have B2 := B1.trans (hB.mono B1.size)
    have HN := Lib.hid hO.nums
    obtain ⟨s5, s33⟩ := Hsz.out Hr.out
    obtain ⟨hd1, hd2⟩ := Hdec.out Hr.out
    obtain ⟨n, hn⟩ : ∃ n, p.enc.length = n := ⟨_, rfl⟩
    rw [hn] at s5 s33 ⊢
    have Hn := Lib.hid hn
    have Hd1 := Lib.hid hd1
    have Hd2 := Lib.hid hd2
    have t5 : (5 : Int) ≤ (n : Int) := by omega
    have t33 : (n : Int) ≤ 33 := by omega
    clear hB B1 hO hn hd1 hd2
    go_wp2_with (first
      | ((refine wpl_pk ?_ (.tmp 1) ?_ w.heap.size p HP.out ?_ R0 ?_); (rfl); (rfl); (rfl)))
    refine (right_any p HP.out _).mono ?_
    rintro e w3 ⟨rfl, hB⟩
    have R0 := row_kept R0 hB (row_lt R0)
    have B3 := B2.trans (hB.mono B2.size)
    have HN := Lib.hid (HN.out.below hB)
    rw [Hr.out]
    clear hB B2
    go_wp2_with fail
    refine (dec_any p.enc HE.out (by rw [Hn.out]; omega) _ A' n c' Hn.out HN.out p Hd2.out 0 (by rw [Hd1.out]; rfl)).mono ?_
    rintro e w4 ⟨rfl, hB⟩
    have R0 := row_kept R0 hB (row_lt R0)
    have B4 := B3.trans (hB.mono B3.size)
    clear hB B3 HN
    go_upto_region 6 with (fail)
    have AN := (Below.refl w4.heap.size w4).alloc (Nat.le_refl _) (.cells (pcs p).toArray pkT)
    have R6 := row_new (W := w4) (cs := (pcs p).toArray) (t := pkT) (m := (0, 0))
    have R0 := row_kept R0 AN (row_lt R0)
    have B5 := B4.trans (AN.mono B4.size)
    generalize w4.alloc (.cells (pcs p).toArray pkT) = X at R0 R6 B5 ⊢
    clear AN B4 pkn zpk
    go_wp2_with (first
      | ((refine wpl_pk ?_ (.tmp 6) ?_ w4.heap.size p HP.out ?_ R6 ?_); (rfl); (rfl); (rfl))
      | ((refine wpl_pk ?_ (.tmp 1) ?_ w.heap.size p HP.out ?_ R0 ?_); (rfl); (rfl); (rfl)))
    go_ret
    exact ⟨ret_bool (by simp <;> omega), B5⟩
theorem own : ownKnob Try.prog.godebug = none := by kernel_rfl
theorem laid : laidOutB Try.prog = true := by kernel_rfl

set_option maxRecDepth 100000 in
theorem lifted (os : Os) (started : os.Started) (H : Type) (enc : TypeId × Value → H) :
    ReturnsInHanded {} Try.checked os 4 .any (Rows.wireBackSpec.pre6 enc Try.prog Try.f4 Rows.wireBackRow.domain false) (Rows.wireBackSpec.post enc Try.prog Try.f4 false true false false) := by
  refine law_lifted (C := Try.checked) (B := 4) own started (by kernel_rfl) Try.func4
    (ChangeSpec.witness6 (enc := enc) (C := Try.checked) false ⟨#[], #[.agg #[.int .i64 0, .int .i64 0, .int .i64 0, .int .i64 0, .int .i64 0, .int .i64 0, .int .i64 0, .int .i64 0, .int .i64 0, .int .i64 0, .int .i64 0, .int .i64 0, .int .u8 0, .int .u8 0, .int .u8 0, .int .u8 0, .int .u8 0, .int .u8 0, .int .u8 0, .int .u8 0, .int .u8 0, .int .u8 0, .int .u8 0, .int .u8 0, .int .u8 0, .int .u8 0, .int .u8 0, .int .u8 0, .int .u8 0, .int .u8 0, .int .u8 0, .int .u8 0, .int .u8 0, .int .u8 0, .int .u8 0, .int .u8 0]], []⟩ 8 (by kernel_rfl) (by kernel_rfl) (by kernel_rfl) (by kernel_rfl))
    rfl rfl Try.underlying4 laid (of_decide_eq_true (by kernel_rfl)) ?_ ?_
  · intro ds hl
    rw [Try.params4] at hl
    match ds, hl with
    | [d0], _ => rfl
  · intro W base args ds ps hval hA hlt hz
    rw [Try.params4] at hA hval
    obtain ⟨v0, vs0, d0, ds0, p0, q0, hargs, rfl, rfl, h0, r0⟩ := trodAll_cons hA
    obtain ⟨rfl, rfl, rfl⟩ := trodAll_nil r0
    obtain rfl : args = #[v0] := by cases args; simp_all
    obtain ⟨p'0, rfl, hwf0, hrg0, hs0, ht0⟩ := open_packet (hval 0 25 v0 rfl rfl) h0
    exact walk W p'0 hwf0 hrg0 hs0 ht0

theorem over : Rows.wireBackRow.holds Try.pinned (OpenSpec.ofChange Rows.wireBackSpec) :=
  OpenClaim.holds_of_wide 4 Try.f4 rfl rfl rfl rfl rfl rfl rfl ⟨rfl, rfl, rfl, rfl, rfl⟩ rfl rfl rfl rfl rfl (by kernel_rfl) Try.func4 (by kernel_rfl)
    (of_decide_eq_true (by kernel_rfl)) (by unfold Func.isWrapper; first | (rw [if_pos (by decide +kernel)]; kernel_rfl) | (rw [if_neg (by decide +kernel)]; exact ⟨rfl, rfl⟩))
    (fun os started H enc _ => lifted os started H enc)

theorem proved : Rows.WireBackSaid := over
#print axioms proved
end Go.Proofs.Ytnfdfnkhjlkdhaa.wireBack
