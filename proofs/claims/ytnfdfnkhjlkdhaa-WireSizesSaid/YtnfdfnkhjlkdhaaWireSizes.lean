/- WireSizes holds for any packet: all packets of a kind have as many bytes, the first of which is the kind. No condition. -/
import Derived.Test.YtnfdfnkhjlkdhaaWireLaw
namespace Go.Proofs.Ytnfdfnkhjlkdhaa.wireSizes
open Go.ChangeShapes Go.WideShapes Go.ChangeAt Go.RowKit

theorem kinds {p : Pk} (h : p.right = true) : (p.kind = 1 ∧ ksize p.kind = 5) ∨ (p.kind = 2 ∧ ksize p.kind = 25) ∨ (p.kind = 3 ∧ ksize p.kind = 26) ∨ (p.kind = 4 ∧ ksize p.kind = 25) ∨ (p.kind = 5 ∧ ksize p.kind = 17) ∨ (p.kind = 6 ∧ ksize p.kind = 18) ∨ (p.kind = 7 ∧ ksize p.kind = 19) ∨ (p.kind = 8 ∧ ksize p.kind = 24) ∨ (p.kind = 9 ∧ ksize p.kind = 18) ∨ (p.kind = 10 ∧ ksize p.kind = 17) ∨ (p.kind = 11 ∧ ksize p.kind = 18) ∨ (p.kind = 12 ∧ ksize p.kind = 6) := by
  obtain ⟨-, h2, -⟩ := right_parts h
  rcases held_cases p.kind with h | h | h | h | h | h | h | h | h | h | h | h | h
  case inr.inr.inr.inr.inr.inr.inr.inr.inr.inr.inr.inr => exact absurd (held_none h) h2
  all_goals (rw [h]; decide)
theorem first_byte {p : Pk} (h : p.right = true) : p.enc.getD 0 0 = p.kind := by
  obtain ⟨h0, h1⟩ := right_kind h
  unfold Pk.enc Pk.laid
  rw [lay1 (by omega) (by omega)]
  simp
set_option maxRecDepth 100000 in
set_option maxHeartbeats 4000000 in
theorem walk (w : World) (p : Pk) (hp : p.Wf) (hpr : p.Rng) (hps : ∀ z ∈ p.s, 0 ≤ z ∧ z < 256) (hpt : ∀ z ∈ p.t, 0 ≤ z ∧ z < 256) :
    Calls Try.prog 7 #[.agg (pcs p).toArray] w fun e w' => e = .returned (.bool true) ∧ Below w.heap.size w w' := by
  have R0 := row_new (W := w) (cs := (pcs p).toArray) (t := pkT) (m := (0, 0))
  have B0 : Below w.heap.size w (w.alloc (.cells (pcs p).toArray pkT)) := (Below.refl _ _).alloc (Nat.le_refl _) _
  have HP := Lib.hid hp
  have HPR := Lib.hid hpr
  have Hlen := Lib.hid (enc_len hp)
  clear hp hpr hps hpt
  go_enter Try.func7, Try.ntmps7
  go_wp2_with fail
  generalize w.alloc (.cells (pcs p).toArray pkT) = V at R0 B0 ⊢
  refine (small_any V).mono ?_
  rintro e w1 ⟨rfl, hB⟩
  have R0 := row_kept R0 hB (row_lt R0)
  have B1 := B0.trans (hB.mono B0.size)
  clear hB B0
  go_wp2_with (first
    | ((refine wpl_pk ?_ (.tmp 1) ?_ w.heap.size p HP.out ?_ R0 ?_); (rfl); (rfl); (rfl)))
  cases hr : p.right
  · refine (enc_bad p HP.out hr _).mono ?_
    rintro e w2 ⟨rfl, hB⟩
    have B2 := B1.trans (hB.mono B1.size)
    clear hB B1
    go_wp2
    go_ret
    exact ⟨rfl, B2⟩
  · have Hf := Lib.hid (first_byte hr)
    have Hk := Lib.hid (kinds hr)
    refine (enc_ok p HP.out HPR.out hr _).mono ?_
    rintro e w2 ⟨A', c', rfl, hO, hB⟩
    have R0 := row_kept R0 hB (row_lt R0)
    have B2 := B1.trans (hB.mono B1.size)
    have c0 := pk_cell R0 HP.out 0 (by decide)
    rw [show p.h.getD 0 0 = p.kind from rfl] at c0
    have hpos : 0 < p.enc.length := by
      have := Hk.out
      rw [Hlen.out]
      omega
    rcases hO.nums with h0 | ⟨b, off, rfl, hlt, hc⟩
    · rw [h0] at hpos; cases hpos
    have cb := hc 0 hpos
    rw [Hf.out, Nat.add_zero] at cb
    clear hB B1 hr hO hc hpos
    have AN := fun o : Obj => (Below.refl w2.heap.size w2).alloc (Nat.le_refl _) o
    have Bn := fun o : Obj => B2.alloc B2.size o
    have hlt0 := row_lt R0
    have cp : ∀ o : Obj, (w2.alloc o).cell? ⟨w.heap.size, 0, none⟩ = some (.int .i64 p.kind) := fun o => ((AN o).cell (p := ⟨w.heap.size, 0, none⟩) hlt0).trans c0
    have cb' : ∀ o : Obj, (w2.alloc o).cell? ⟨b, off, none⟩ = some (.int .u8 p.kind) := fun o => ((AN o).cell (p := ⟨b, off, none⟩) hlt).trans cb
    have he := Hlen.out
    rcases Hk.out with ⟨hk, hs⟩ | ⟨hk, hs⟩ | ⟨hk, hs⟩ | ⟨hk, hs⟩ | ⟨hk, hs⟩ | ⟨hk, hs⟩ | ⟨hk, hs⟩ | ⟨hk, hs⟩ | ⟨hk, hs⟩ | ⟨hk, hs⟩ | ⟨hk, hs⟩ | ⟨hk, hs⟩
    all_goals
      rw [hs] at he
      rw [hk] at cp cb'
      rw [he]
      clear hs hk he c0 cb R0 hlt hlt0 AN B2
      go_wp2_with fail
      go_quiet (fail)
      go_wp2
      go_ret
      exact ⟨rfl, below_drewN (Bn _) _⟩
theorem own : ownKnob Try.prog.godebug = none := by kernel_rfl
theorem laid : laidOutB Try.prog = true := by kernel_rfl

set_option maxRecDepth 100000 in
theorem lifted (os : Os) (started : os.Started) (H : Type) (enc : TypeId × Value → H) :
    ReturnsInHanded {} Try.checked os 7 .any (Rows.wireSizesSpec.pre6 enc Try.prog Try.f7 Rows.wireSizesRow.domain false) (Rows.wireSizesSpec.post enc Try.prog Try.f7 false true false false) := by
  refine law_lifted (C := Try.checked) (B := 4) own started (by kernel_rfl) Try.func7
    (ChangeSpec.witness6 (enc := enc) (C := Try.checked) false ⟨#[], #[.agg #[.int .i64 0, .int .i64 0, .int .i64 0, .int .i64 0, .int .i64 0, .int .i64 0, .int .i64 0, .int .i64 0, .int .i64 0, .int .i64 0, .int .i64 0, .int .i64 0, .int .u8 0, .int .u8 0, .int .u8 0, .int .u8 0, .int .u8 0, .int .u8 0, .int .u8 0, .int .u8 0, .int .u8 0, .int .u8 0, .int .u8 0, .int .u8 0, .int .u8 0, .int .u8 0, .int .u8 0, .int .u8 0, .int .u8 0, .int .u8 0, .int .u8 0, .int .u8 0, .int .u8 0, .int .u8 0, .int .u8 0, .int .u8 0]], []⟩ 8 (by kernel_rfl) (by kernel_rfl) (by kernel_rfl) (by kernel_rfl))
    rfl rfl Try.underlying4 laid (of_decide_eq_true (by kernel_rfl)) ?_ ?_
  · intro ds hl
    rw [Try.params7] at hl
    match ds, hl with
    | [d0], _ => rfl
  · intro W base args ds ps hval hA hlt hz
    rw [Try.params7] at hA hval
    obtain ⟨v0, vs0, d0, ds0, p0, q0, hargs, rfl, rfl, h0, r0⟩ := trodAll_cons hA
    obtain ⟨rfl, rfl, rfl⟩ := trodAll_nil r0
    obtain rfl : args = #[v0] := by cases args; simp_all
    obtain ⟨p'0, rfl, hwf0, hrg0, hs0, ht0⟩ := open_packet (hval 0 25 v0 rfl rfl) h0
    exact walk W p'0 hwf0 hrg0 hs0 ht0

theorem over : Rows.wireSizesRow.holds Try.pinned (OpenSpec.ofChange Rows.wireSizesSpec) :=
  OpenClaim.holds_of_wide 7 Try.f7 rfl rfl rfl rfl rfl rfl rfl ⟨rfl, rfl, rfl, rfl, rfl⟩ rfl rfl rfl rfl rfl (by kernel_rfl) Try.func7 (by kernel_rfl)
    (of_decide_eq_true (by kernel_rfl)) (by unfold Func.isWrapper; first | (rw [if_pos (by decide +kernel)]; kernel_rfl) | (rw [if_neg (by decide +kernel)]; exact ⟨rfl, rfl⟩))
    (fun os started H enc _ => lifted os started H enc)

theorem proved : Rows.WireSizesSaid := over
#print axioms proved
end Go.Proofs.Ytnfdfnkhjlkdhaa.wireSizes
