/- RttRight holds for any Rtt and any times: what is right stays right, nothing is waited for shorter than 2, or longer than 64, and a failure never shortens that. No condition. -/
import Derived.Test.YteojpeldiodbhaaRttOpen
import Derived.Test.YteojpeldiodbhaaRttMath2
import Derived.Test.YteojpeldiodbhaaTail
namespace Go.Proofs.Yteojpeldiodbhaa.rttRight
open Go.ChangeShapes Go.WideShapes Go.ChangeAt Go.RowKit

def cells (x : Rtt) : Array Value := #[.int .i64 x.s, .int .i64 x.v, .int .i64 x.rto, .int .i64 x.fails, .bool x.has]
def At (w : World) (x : Rtt) (wr : World) : Prop := wr.heap[w.heap.size]? = some (.cells (cells x) 23) ∧ Below w.heap.size w wr

theorem back_facts (x : Rtt) (h : x.Ok) : x.backoff.right = true ∧ x.backoff.s = x.s ∧ x.backoff.v = x.v ∧ x.rto ≤ x.backoff.rto ∧ x.fails ≤ x.backoff.fails ∧ 2 ≤ x.backoff.rto ∧ x.backoff.rto ≤ 64 := by
  have ho := Rtt.backoff_ok x
  have e := Rtt.backoff_of x h
  refine ⟨(Rtt.right_iff _).2 ho, by rw [e], by rw [e], ?_, ?_, ho.2.2.2.2.1, ho.2.2.2.2.2.1⟩
  · rw [e]; have := h.2.2.2.2; simp only; omega
  · rw [e]; have := h.2.2.2.2; simp only; omega
theorem sample_facts (x : Rtt) (r : Int) : (x.sample r).right = true ∧ (x.sample r).fails = 0 ∧ (x.sample r).has = true ∧ 2 ≤ (x.sample r).rto ∧ (x.sample r).rto ≤ 64 := by
  have ho := Rtt.sample_ok x r
  exact ⟨(Rtt.right_iff _).2 ho, (Rtt.sample_fails x r).1, (Rtt.sample_fails x r).2, ho.2.2.2.2.1, ho.2.2.2.2.2.1⟩

set_option maxHeartbeats 4000000 in
theorem walk (w : World) (s v rto f : Int) (has : Bool) (ws : (Lit.int .i64 s).wf = true) (wv : (Lit.int .i64 v).wf = true) (wr : (Lit.int .i64 rto).wf = true) (wf : (Lit.int .i64 f).wf = true)
    (A : Option Addr) (n cap : Nat) (zs : List Int) (hl : n ≤ cap) (hm : cap ≤ maxLen) (hn : zs.length = n) (hN : Nums .i64 w A zs) (hw : ∀ z ∈ zs, (Lit.int .i64 z).wf = true) :
    Calls Try.prog 4 #[.agg #[.int .i64 s, .int .i64 v, .int .i64 rto, .int .i64 f, .bool has], .slice A n cap] w fun e w' => e = .returned (.bool true) ∧ Below w.heap.size w w' := by
  clear ws wv wr wf hw
  have Hn := Lib.hid hn
  have HN := Lib.hid hN
  unfold maxLen at hm
  clear hn hN
  by_cases h5 : 500 < n
  · go_enter Try.func4, Try.ntmps4
    go_wp2_with fail
    refine (small_any _).mono ?_
    rintro e' w1 ⟨rfl, hb1⟩
    obtain ⟨R1, z1, b1⟩ := new_kept hb1
    clear hb1
    go_wp2_with fail
    go_ret
    exact ⟨rfl, b1⟩
  · obtain ⟨x0, h0, hx⟩ : ∃ x : Rtt, x.Ok ∧ (Rtt.right ⟨s, v, rto, f, has⟩ = true ∧ x = ⟨s, v, rto, f, has⟩ ∨ Rtt.right ⟨s, v, rto, f, has⟩ = false ∧ x = Rtt.start) := by
      cases hr : Rtt.right ⟨s, v, rto, f, has⟩
      · exact ⟨Rtt.start, Rtt.start_ok, Or.inr ⟨rfl, rfl⟩⟩
      · exact ⟨_, (Rtt.right_iff _).1 hr, Or.inl ⟨rfl, rfl⟩⟩
    have H0 := Lib.hid h0
    clear h0
    rcases hx with ⟨hr, rfl⟩ | ⟨hr, rfl⟩
    all_goals
      go_enter Try.func4, Try.ntmps4
      go_wp2_with fail
      refine (small_any _).mono ?_
      rintro e' w1 ⟨rfl, hb1⟩
      obtain ⟨R1, z1, b1⟩ := new_kept hb1
      have K1 := row_cells R1
      clear hb1
      go_wp2_with fail
      refine (right_any _ _ _ _ _ _).mono ?_
      rintro e w2 ⟨rfl, hb2⟩
      have R2 := row_kept R1 hb2 z1
      have z2 := lt_kept z1 hb2
      have B2 := b1.trans (hb2.mono b1.size)
      clear K1 R1 hb2 b1
      go_wp2_with (first
        | (go_at_call 17; refine (start_any _).mono ?_; rintro e w3 ⟨rfl, hb3⟩; have R3 := row_kept R2 hb3 z2; have B3 := B2.trans (hb3.mono B2.size); clear R2 B2 hb3 z2; obtain ⟨s0, s1, c0, c1, f0, f1, q1⟩ := rows1 R3)
        )
      go_loopw [6] (fun i wr => ∃ (k : Nat) (x : Rtt), k ≤ n ∧ i = .int .i64 k ∧ x.Ok ∧ At w x wr) (fun i _ => n - (intOf i).toNat)
      case atStart => first | exact ⟨0, _, Nat.zero_le _, rfl, H0.out, R2, B2⟩ | exact ⟨0, _, Nat.zero_le _, rfl, H0.out, row_written R3, setRow_below B3 (Nat.le_refl _)⟩
      case round =>
        obtain ⟨k, x, hk, rfl, hI, R, B⟩ := hrel
        try clear R2 B2 z2
        try clear R3 B3 s0 s1 c0 c1 f0 f1 q1
        by_cases hkn : k < n
        · rcases HN.out with h0 | ⟨b, off, rfl, hlt, hc⟩
          · have := Hn.out; rw [h0] at this; simp at this; omega
          have hcell : wr.cell? ⟨b, off + k, none⟩ = some (.int .i64 (zs.getD k 0)) := (B.cell (p := ⟨b, off + k, none⟩) hlt).trans (hc k (by rw [Hn.out]; exact hkn))
          have hlt' : b < wr.heap.size := Nat.lt_of_lt_of_le hlt B.size
          clear hc
          generalize zs.getD k 0 = z at hcell
          have hg := row_lt R
          by_cases hz : z < 0
          · obtain ⟨g1, g2, g3, g4, g5, g6, g7⟩ := back_facts x hI
            have ho := Rtt.backoff_ok x
            obtain ⟨x1, x2, x3, x4, x5⟩ := x
            generalize hy : Rtt.backoff ⟨x1, x2, x3, x4, x5⟩ = y at g1 g2 g3 g4 g5 g6 g7 ho
            obtain ⟨y1, y2, y3, y4, y5⟩ := y
            simp only at g2 g3 g4 g5 g6 g7
            subst g2; subst g3
            have Hy := Lib.hid hy
            have HO := Lib.hid ho
            unfold cells at R
            have K := row_cells R
            clear hy ho hI
            go_wp2_with (first
              | (go_at_call 15; refine (backoff_to Hy.out _).mono ?_; rintro e w4 ⟨rfl, hb4⟩; obtain ⟨Rw, zw, b4⟩ := new_kept hb4; have R4 := row_kept R b4 hg; obtain ⟨s0, s1, c1, f1, c2, f2, s2, s3, c3, f3, q1, c0, f0, c02, f02⟩ := rows2 R4 Rw (by omega); clear hb4)
              | (go_at_call 11; refine (right_any _ _ _ _ _ _).mono ?_; rintro e w5 ⟨rfl, hb5⟩; have R5 := row_kept (row_written R4) hb5 (by rw [setRow_size]; exact row_lt R4); have K5 := row_cells R5)
              )
            go_roundw
            case rel => exact ⟨k + 1, ⟨y1, y2, y3, y4, y5⟩, by omega, by go_num, HO.out, R5, (setRow_below (B.trans (b4.mono B.size)) (Nat.le_refl _)).trans (hb5.mono (setRow_below (B.trans (b4.mono B.size)) (Nat.le_refl _)).size)⟩
            case measure => simp [intOf]; omega
          · obtain ⟨g1, g2, g3, g4, g5⟩ := sample_facts x z
            have ho := Rtt.sample_ok x z
            obtain ⟨x1, x2, x3, x4, x5⟩ := x
            generalize hy : Rtt.sample ⟨x1, x2, x3, x4, x5⟩ z = y at g1 g2 g3 g4 g5 ho
            obtain ⟨y1, y2, y3, y4, y5⟩ := y
            simp only at g2 g3 g4 g5
            subst g2; subst g3
            have Hy := Lib.hid hy
            have HO := Lib.hid ho
            unfold cells at R
            have K := row_cells R
            clear hy ho hI
            go_wp2_with fail
            obtain ⟨V, hV⟩ : ∃ V, V = wr.alloc (.cells #[.int .i64 x1, .int .i64 x2, .int .i64 x3, .int .i64 x4, .bool x5] 23) := ⟨_, rfl⟩
            rw [← hV]
            have RV : V.heap[w.heap.size]? = some (.cells #[.int .i64 x1, .int .i64 x2, .int .i64 x3, .int .i64 x4, .bool x5] 23) := by rw [hV, Below.heap_alloc _ _ _ hg]; exact R
            have KV := row_cells RV
            have BV : Below w.heap.size w V := by rw [hV]; exact B.alloc B.size _
            have cV : V.cell? ⟨b, off + k, none⟩ = some (.int .i64 z) := by rw [hV]; exact (((Below.refl wr.heap.size wr).alloc (Nat.le_refl _) _).cell (p := ⟨b, off + k, none⟩) hlt').trans hcell
            have gV := row_lt RV
            have q1 : (k : Int) < (n : Int) := by omega
            have q0 : (0 : Int) ≤ (k : Int) := by omega
            clear K R B hcell hg hlt' hV
            refine region_tail 5 (by kernel_rfl) (by kernel_rfl) ?_
            simp only [List.take_succ_cons, List.take_zero, List.drop_succ_cons, List.drop_zero]
            repeat (quiet_step ((fail)))
            refine wpQuiet_nil ?_
            intro m
            go_wp2_with (first
              | (go_at_call 13; refine (sample_to Hy.out _).mono ?_; rintro e w4 ⟨rfl, hb4⟩; have R4 := row_kept (show (V.drewN m).heap[w.heap.size]? = _ from RV) hb4 gV; have B4 := (below_drewN BV m).trans (hb4.mono BV.size); obtain ⟨s0, s1, c0, c1, f0, f1, z1⟩ := rows1 R4; clear hb4)
              | (go_at_call 11; refine (right_any _ _ _ _ _ _).mono ?_; rintro e w5 ⟨rfl, hb5⟩; have R5 := row_kept (row_written R4) hb5 (by rw [setRow_size]; exact row_lt R4); have K5 := row_cells R5)
              )
            go_roundw
            case rel => exact ⟨k + 1, ⟨y1, y2, y3, 0, true⟩, by omega, by go_num, HO.out, R5, (setRow_below B4 (Nat.le_refl _)).trans (hb5.mono (setRow_below B4 (Nat.le_refl _)).size)⟩
            case measure => simp [intOf]; omega
        · obtain rfl : k = n := by omega
          go_wp2
          go_ret
          exact ⟨rfl, B⟩

theorem own : ownKnob Try.prog.godebug = none := by kernel_rfl
theorem laid : laidOutB Try.prog = true := by kernel_rfl

set_option maxRecDepth 100000 in
theorem lifted (os : Os) (started : os.Started) (H : Type) (enc : TypeId × Value → H) :
    ReturnsInHanded {} Try.checked os 4 .any (Rows.rttRightSpec.pre6 enc Try.prog Try.f4 Rows.rttRightRow.domain false) (Rows.rttRightSpec.post enc Try.prog Try.f4 false true false false) := by
  refine law_lifted (C := Try.checked) (B := 4) own started (by kernel_rfl) Try.func4
    (ChangeSpec.witness6 (enc := enc) (C := Try.checked) false ⟨#[], #[.agg #[.int .i64 0, .int .i64 0, .int .i64 0, .int .i64 0, .bool false], .slice none 0 0], []⟩ 8 (by kernel_rfl) (by kernel_rfl) (by kernel_rfl) (by kernel_rfl))
    rfl rfl Try.underlying4 laid (of_decide_eq_true (by kernel_rfl)) ?_ ?_
  · intro ds hl
    rw [Try.params4] at hl
    match ds, hl with
    | [d0, d1], _ => rfl
  · intro W base args ds ps hval hA hlt hz
    rw [Try.params4] at hA hval
    obtain ⟨v0, vs0, d0, ds0, p0, q0, hargs, rfl, rfl, h0, r0⟩ := trodAll_cons hA
    obtain ⟨v1, vs1, d1, ds1, p1, q1, rfl, rfl, rfl, h1, r1⟩ := trodAll_cons r0
    obtain ⟨rfl, rfl, rfl⟩ := trodAll_nil r1
    obtain rfl : args = #[v0, v1] := by cases args; simp_all
    obtain ⟨s0, v'0, rto0, f0, has0, rfl, ws0, wv0, wr0, wf0⟩ := open_rtt (hval 0 23 v0 rfl rfl) h0
    obtain ⟨A1, n1, cap1, zs1, rfl, hl1, hm1, hn1, hN1, hw1⟩ := open_nums Try.underlying29 Try.underlying3 (by kernel_rfl) (hval 1 29 v1 rfl rfl) h1
    exact walk W s0 v'0 rto0 f0 has0 ws0 wv0 wr0 wf0 A1 n1 cap1 zs1 hl1 hm1 hn1 hN1 hw1

theorem over : Rows.rttRightRow.holds Try.pinned (OpenSpec.ofChange Rows.rttRightSpec) :=
  OpenClaim.holds_of_wide 4 Try.f4 rfl rfl rfl rfl rfl rfl rfl ⟨rfl, rfl, rfl, rfl, rfl⟩ rfl rfl rfl rfl rfl (by kernel_rfl) Try.func4 (by kernel_rfl)
    (of_decide_eq_true (by kernel_rfl)) (by unfold Func.isWrapper; first | (rw [if_pos (by decide +kernel)]; kernel_rfl) | (rw [if_neg (by decide +kernel)]; exact ⟨rfl, rfl⟩))
    (fun os started H enc _ => lifted os started H enc)

theorem proved : Rows.RttRightSaid := over
#print axioms proved
end Go.Proofs.Yteojpeldiodbhaa.rttRight
