/- SatRange holds for all numbers: what is told is in its range, and hangs on what is handed in as it is in its range alone. No condition. -/
import Derived.Test.YtefncobjndhhdaaSat
import Derived.Deep.QuietTactic
import Derived.BigQuiet
namespace Go.Proofs.Ytefncobjndhhdaa.satRange
open Go.ChangeShapes Go.WideShapes Go.ChangeAt Go.RowKit

def vals (a b : Int) (zs : List Int) : List Int := [Sat.clamp a, Sat.add a b, Sat.sub a b, Sat.mul a b, Sat.sum zs, Sat.mean zs]
theorem vals_in (a b : Int) (zs : List Int) (k : Nat) (hk : k < 6) : 0 ≤ (vals a b zs).getD k 0 ∧ (vals a b zs).getD k 0 ≤ 1099511627776 := by
  match k, hk with
  | 0, _ => exact Sat.clamp_bd a
  | 1, _ => exact ⟨Sat.add_lo a b, Sat.add_hi a b⟩
  | 2, _ => exact Sat.clamp_bd _
  | 3, _ => exact ⟨Sat.mul_lo a b, Sat.mul_hi a b⟩
  | 4, _ => exact Sat.sum_bd zs
  | 5, _ => exact Sat.mean_bd zs
/-- What stands in memory at each round's head. -/
def Held (w : World) (g : Nat) (a b : Int) (zs : List Int) (wr : World) : Prop := Nums .i64 wr (some ⟨g, 0, none⟩) (vals a b zs) ∧ Below w.heap.size w wr
theorem Held.cell {w : World} {g : Nat} {a b : Int} {zs : List Int} {wr : World} (h : Held w g a b zs wr) (k : Nat) (hk : k < 6) : wr.cell? ⟨g, k, none⟩ = some (.int .i64 ((vals a b zs).getD k 0)) := by
  rcases h.1 with h0 | ⟨b', off, hA, _, hc⟩
  · cases h0
  · simp only [Option.some.injEq, Addr.mk.injEq] at hA
    obtain ⟨rfl, rfl, _⟩ := hA
    have := hc k hk
    rwa [Nat.zero_add] at this

set_option maxHeartbeats 1000000 in
theorem walk (w : World) (a : Int) (wa : (Lit.int .i64 a).wf = true) (b : Int) (wb : (Lit.int .i64 b).wf = true)
    (A : Option Addr) (n cap : Nat) (zs : List Int) (hl : n ≤ cap) (hm : cap ≤ maxLen) (hn : zs.length = n) (hN : Nums .i64 w A zs) (hw : ∀ z ∈ zs, (Lit.int .i64 z).wf = true) :
    Calls Try.prog 4 #[.int .i64 a, .int .i64 b, .slice A n cap] w fun e w' => e = .returned (.bool true) ∧ Below w.heap.size w w' := by
  clear wa wb hw
  have Hn := Lib.hid hn
  have HN := Lib.hid hN
  unfold maxLen at hm
  clear hn hN
  by_cases h : 1000 < n
  · go_enter Try.func4, Try.ntmps4
    go_wp2_with (first
      | (go_at_call 11; refine (small_any _).mono ?_; rintro e w' ⟨rfl, hb⟩)
      | (go_at_call 12; refine (clamp_any _ _).mono ?_; rintro e w' ⟨rfl, rfl⟩)
      | (go_at_call 14; refine (add_any _ _ _).mono ?_; rintro e w' ⟨rfl, rfl⟩)
      | (go_at_call 16; refine (sub_any _ _ _).mono ?_; rintro e w' ⟨rfl, rfl⟩)
      | (go_at_call 18; refine (mul_any _ _ _).mono ?_; rintro e w' ⟨rfl, rfl⟩)
      )
    go_ret
    exact ⟨rfl, hb⟩
  · go_enter Try.func4, Try.ntmps4
    go_wp2_with (first
      | (go_at_call 11; refine (small_any _).mono ?_; rintro e w' ⟨rfl, hb⟩)
      | (go_at_call 12; refine (clamp_any _ _).mono ?_; rintro e w' ⟨rfl, rfl⟩)
      | (go_at_call 14; refine (add_any _ _ _).mono ?_; rintro e w' ⟨rfl, rfl⟩)
      | (go_at_call 16; refine (sub_any _ _ _).mono ?_; rintro e w' ⟨rfl, rfl⟩)
      | (go_at_call 18; refine (mul_any _ _ _).mono ?_; rintro e w' ⟨rfl, rfl⟩)
      | (go_at_call 20; refine (sum_any _ _ _ zs _ Hn.out (by omega) (HN.out.below hb)).mono ?_; rintro e w' ⟨rfl, rfl⟩)
      | (go_at_call 22; refine (mean_any _ _ _ zs _ Hn.out (by omega) (HN.out.below hb)).mono ?_; rintro e w' ⟨rfl, rfl⟩)
      )
    go_loopw [11] (fun i wr => ∃ k : Nat, k ≤ 6 ∧ i = .int .i64 k ∧ Held w w'.heap.size a b zs wr) (fun i _ => 6 - (intOf i).toNat)
    case atStart => exact ⟨0, by omega, rfl, Nums.new _ _ _ _ _ rfl rfl, hb.alloc hb.size _⟩
    case round =>
      obtain ⟨k, hk, rfl, hH⟩ := hrel
      have HH := Lib.hid hH
      clear hH
      by_cases hlt : k < 6
      · have hcell := HH.out.cell k hlt
        obtain ⟨h1, h2⟩ := vals_in a b zs k hlt
        generalize (vals a b zs).getD k 0 = v at hcell h1 h2
        have e1 : decide (v < 0) = false := decide_eq_false (by omega)
        have e2 : decide (1099511627776 < v) = false := decide_eq_false (by omega)
        have e3 : (Sat.clamp v != v) = false := by rw [Sat.clamp_of v h1 h2]; simp
        go_wp2
        go_quiet ((first
          | (go_at_call 12; exact quiet_left (clamp_any _ _))
          ))
        go_wp2
        go_roundw
        case rel => exact ⟨k + 1, by omega, by go_num, HH.out.1, below_drewN HH.out.2 _⟩
        case measure => simp [intOf]; omega
      · obtain rfl : k = 6 := by omega
        have c1 : wr.cell? ⟨w'.heap.size, 1, none⟩ = some (.int .i64 (Sat.add a b)) := HH.out.cell 1 (by omega)
        have c2 : wr.cell? ⟨w'.heap.size, 2, none⟩ = some (.int .i64 (Sat.sub a b)) := HH.out.cell 2 (by omega)
        have c3 : wr.cell? ⟨w'.heap.size, 3, none⟩ = some (.int .i64 (Sat.mul a b)) := HH.out.cell 3 (by omega)
        have e1 := Sat.add_cc a b
        have e2 := Sat.sub_cc a b
        have e3 := Sat.mul_cc a b
        by_cases g1 : a < 0
        · have d1 : decide (a < 0) = true := decide_eq_true g1
          have d3 : (Sat.clamp a != a) = true := by rw [bne_iff_ne]; have := Sat.clamp_lo a; omega
          clear hk hlt
          go_wp2
          go_quiet ((first
            | (go_at_call 14; exact quiet_left (add_any _ _ _))
            | (go_at_call 16; exact quiet_left (sub_any _ _ _))
            | (go_at_call 18; exact quiet_left (mul_any _ _ _))
            ))
          go_wp2
          go_ret
          exact ⟨rfl, below_drewN HH.out.2 _⟩
        · have d1 : decide (a < 0) = false := decide_eq_false g1
          by_cases g2 : 1099511627776 < a
          · have d2 : decide (1099511627776 < a) = true := decide_eq_true g2
            have d3 : (Sat.clamp a != a) = true := by rw [bne_iff_ne]; have := Sat.clamp_hi a; omega
            clear hk hlt
            go_wp2
            go_quiet ((first
              | (go_at_call 14; exact quiet_left (add_any _ _ _))
              | (go_at_call 16; exact quiet_left (sub_any _ _ _))
              | (go_at_call 18; exact quiet_left (mul_any _ _ _))
              ))
            go_wp2
            go_ret
            exact ⟨rfl, below_drewN HH.out.2 _⟩
          · have d2 : decide (1099511627776 < a) = false := decide_eq_false g2
            have d3 : (Sat.clamp a != a) = false := by rw [Sat.clamp_of a (by omega) (by omega)]; simp
            clear hk hlt
            go_wp2
            go_quiet ((first
              | (go_at_call 14; exact quiet_left (add_any _ _ _))
              | (go_at_call 16; exact quiet_left (sub_any _ _ _))
              | (go_at_call 18; exact quiet_left (mul_any _ _ _))
              ))
            go_wp2
            go_ret
            exact ⟨rfl, below_drewN HH.out.2 _⟩

theorem own : ownKnob Try.prog.godebug = none := by kernel_rfl
theorem laid : laidOutB Try.prog = true := by kernel_rfl

set_option maxRecDepth 100000 in
theorem lifted (os : Os) (started : os.Started) (H : Type) (enc : TypeId × Value → H) :
    ReturnsInHanded {} Try.checked os 4 .any (Rows.satRangeSpec.pre6 enc Try.prog Try.f4 Rows.satRangeRow.domain false) (Rows.satRangeSpec.post enc Try.prog Try.f4 false true false false) := by
  refine law_lifted (C := Try.checked) (B := 4) own started (by kernel_rfl) Try.func4
    (ChangeSpec.witness6 (enc := enc) (C := Try.checked) false ⟨#[], #[.int .i64 0, .int .i64 0, .slice none 0 0], []⟩ 8 (by kernel_rfl) (by kernel_rfl) (by kernel_rfl) (by kernel_rfl))
    rfl rfl Try.underlying4 laid (of_decide_eq_true (by kernel_rfl)) ?_ ?_
  · intro ds hl
    rw [Try.params4] at hl
    match ds, hl with
    | [d0, d1, d2], _ => rfl
  · intro W base args ds ps hval hA hlt hz
    rw [Try.params4] at hA hval
    obtain ⟨v0, vs0, d0, ds0, p0, q0, hargs, rfl, rfl, h0, r0⟩ := trodAll_cons hA
    obtain ⟨v1, vs1, d1, ds1, p1, q1, rfl, rfl, rfl, h1, r1⟩ := trodAll_cons r0
    obtain ⟨v2, vs2, d2, ds2, p2, q2, rfl, rfl, rfl, h2, r2⟩ := trodAll_cons r1
    obtain ⟨rfl, rfl, rfl⟩ := trodAll_nil r2
    obtain rfl : args = #[v0, v1, v2] := by cases args; simp_all
    obtain ⟨a0, rfl, rfl, rfl, w0⟩ := open_int Try.underlying3 (hval 0 3 v0 rfl rfl) h0
    obtain ⟨a1, rfl, rfl, rfl, w1⟩ := open_int Try.underlying3 (hval 1 3 v1 rfl rfl) h1
    obtain ⟨A2, n2, cap2, zs2, rfl, hl2, hm2, hn2, hN2, hw2⟩ := open_nums Try.underlying22 Try.underlying3 (by kernel_rfl) (hval 2 22 v2 rfl rfl) h2
    exact walk W a0 w0 a1 w1 A2 n2 cap2 zs2 hl2 hm2 hn2 hN2 hw2

theorem over : Rows.satRangeRow.holds Try.pinned (OpenSpec.ofChange Rows.satRangeSpec) :=
  OpenClaim.holds_of_wide 4 Try.f4 rfl rfl rfl rfl rfl rfl rfl ⟨rfl, rfl, rfl, rfl, rfl⟩ rfl rfl rfl rfl rfl (by kernel_rfl) Try.func4 (by kernel_rfl)
    (of_decide_eq_true (by kernel_rfl)) (by unfold Func.isWrapper; first | (rw [if_pos (by decide +kernel)]; kernel_rfl) | (rw [if_neg (by decide +kernel)]; exact ⟨rfl, rfl⟩))
    (fun os started H enc _ => lifted os started H enc)

theorem proved : Rows.SatRangeSaid := over
#print axioms proved
end Go.Proofs.Ytefncobjndhhdaa.satRange
