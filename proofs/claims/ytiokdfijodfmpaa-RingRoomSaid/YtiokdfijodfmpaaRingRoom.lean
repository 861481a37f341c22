/- RingRoom holds for any room and however many numbers: a ring holds all till it is full, rooms beyond 1 to 64 are those, and nothing changes by looking. No condition. -/
import Derived.Test.YtiokdfijodfmpaaRing3
namespace Go.Proofs.Ytiokdfijodfmpaa.ringRoom
open Go.ChangeShapes Go.WideShapes Go.ChangeAt Go.RowKit

/-- How much is held, and lost, behind n pushes. -/
theorem push_h {R : RS} (hO : R.Ok) (z : Int) : (R.push z).h = min (R.h + 1) (R.e + 1) ∧ (R.push z).l = R.l + max 0 (R.h - R.e) := by
  have := hO.h1
  unfold RS.push RS.put RS.drop
  split <;> simp only <;> omega

def Inv (room : Int) (k : Nat) (R : RS) : Prop := R.Ok ∧ R.e = min (max room 1) 64 - 1 ∧ R.h = min (k : Int) (R.e + 1) ∧ R.l = max 0 ((k : Int) - (R.e + 1))
theorem Inv.start (room : Int) : Inv room 0 (RS.made room) := ⟨made_ok room, rfl, by unfold RS.made; simp only; omega, by unfold RS.made; simp only; omega⟩
theorem Inv.step {room : Int} {k : Nat} {R : RS} (h : Inv room k R) (hk : k ≤ 1000) (z : Int) : Inv room (k + 1) (R.push z) := by
  obtain ⟨h1, h2, h3, h4⟩ := h
  have := h1.e0
  have := h1.h1
  obtain ⟨p1, p2, p3⟩ := RS.push_ok h1 (by omega) z
  obtain ⟨q1, q2⟩ := push_h h1 z
  exact ⟨p1, by omega, by omega, by omega⟩

set_option maxHeartbeats 2000000 in
theorem walk (w : World) (room : Int) (wr' : (Lit.int .i64 room).wf = true) (n : Int) (wn : (Lit.int .i64 n).wf = true) :
    Calls Try.prog 6 #[.int .i64 room, .int .i64 n] w fun e w' => e = .returned (.bool true) ∧ Below w.heap.size w w' := by
  clear wr' wn
  by_cases h : n < 0 ∨ 200 < n
  · rcases h with h | h
    all_goals
      go_enter Try.func6, Try.ntmps6
      go_wp2_with (first
        | (go_at_call 7; refine (small_any _).mono ?_; rintro e w' ⟨rfl, hb⟩)
        )
      all_goals (first | (go_ret; exact ⟨rfl, hb⟩) | (exfalso; omega))
  · have g1 : 0 ≤ n := by omega
    have g2 : n ≤ 200 := by omega
    clear h
    obtain ⟨m, rfl⟩ := Int.eq_ofNat_of_zero_le g1
    go_enter Try.func6, Try.ntmps6
    go_wp2_with fail
    refine (small_any _).mono ?_
    rintro e w1 ⟨rfl, B1⟩
    go_wp2_with fail
    refine (new_to room B1 B1.size).mono ?_
    rintro e w2 ⟨rfl, R2, z2, B2, -⟩
    go_wp2_with fail
    have hg := B1.size
    go_loopw [7] (fun i wr => ∃ (k : Nat) (R : RS), k ≤ m ∧ i = .int .i64 k ∧ Inv room k R ∧ RingAt wr w1.heap.size R ∧ Below w.heap.size w wr) (fun i _ => m - (intOf i).toNat)
    case atStart => exact ⟨0, _, Nat.zero_le _, rfl, Inv.start room, R2, B2⟩
    case round =>
      obtain ⟨k, R, hk, rfl, hI, RV, B⟩ := hrel
      clear R2 z2 B2
      have HI := Lib.hid hI
      by_cases hkm : k < m
      · have hI2 := hI.step (by omega) (k : Int)
        have okR := hI2.1
        obtain ⟨S, hS⟩ : ∃ S, R.pushes [(k : Int)] = S := ⟨_, rfl⟩
        have hS' : R.push (k : Int) = S := hS
        rw [hS'] at hI2 okR
        have HS := Lib.hid hS
        have HI2 := Lib.hid hI2
        have h0 : 0 < S.h := by have := hI2.2.2.1; have := hI2.1.e0; omega
        have H0 := Lib.hid h0
        have hl : R.l + ((1 : Nat) : Int) ≤ 1099511627776 := by have := hI.2.2.2; have := hI.1.e0; omega
        have Hl := Lib.hid hl
        have ra := fun o => ring_at RV ((Below.refl wr.heap.size wr).alloc (Nat.le_refl _) o)
        have hlt := row_lt RV
        clear hS hS' hI hI2 h0 hl
        go_wp2_with (first
          | (go_at_call 10; refine (push_to [(k : Int)] HS.out (ra _) HI.out.1 _ 1 1 rfl (Nums.new _ _ _ _ _ rfl rfl) (by omega) Hl.out (fun _ b off h => by injection h with h; injection h with h; omega) (B.alloc B.size _) hg).mono ?_; rintro e X ⟨rfl, RX, -, -, BX⟩)
          | (go_at_call 14; refine (all_any RX okR).mono ?_; rintro e w6 ⟨A6, c6, rfl, hO6, hB6⟩; have R6 := ring_at RX hB6; have B6 := BX.trans (hB6.mono BX.size))
          | (go_at_call 12; refine (last_to rfl R6 okR H0.out).mono ?_; rintro e w' ⟨rfl, q, rfl⟩)
          )
        go_roundw
        case rel => exact ⟨k + 1, S, by omega, by go_num, HI2.out, R6, below_drewN B6 _⟩
        case measure => simp [intOf]; omega
      · obtain rfl : k = m := by omega
        obtain ⟨okR, e1, e2, e3⟩ := hI
        have e0 := okR.e0
        have hl : R.l + ((0 : Nat) : Int) ≤ 1099511627776 := by omega
        have Hl := Lib.hid hl
        obtain ⟨v, hv⟩ : ∃ v : Nat, R.h = v := ⟨R.h.toNat, by omega⟩
        have Hlist := Lib.hid (show R.list.length = v by rw [RS.list_len, hv]; rfl)
        have Hv := Lib.hid hv
        have hvl : (v : Int) = min (k : Int) (max 1 (min room 64)) ∧ R.l = max 0 ((k : Int) - max 1 (min room 64)) := by omega
        obtain ⟨hv1, hl1⟩ := hvl
        have HL := Lib.hid hl1
        clear hl HI e1 e2 e3 e0 hv hl1 hkm
        go_wp2_with (first
          | (go_at_call 10; refine (push_to (R' := R) [] rfl RV okR _ 0 0 rfl Nums.nil (by omega) Hl.out (fun _ b off h => by cases h) B hg).mono ?_; rintro e X ⟨rfl, RX, -, -, BX⟩)
          | (go_at_call 17; refine (len_to Hv.out RX).mono ?_; rintro e w' ⟨rfl, rfl⟩)
          | (go_at_call 19; refine (lost_to HL.out RX).mono ?_; rintro e w' ⟨rfl, rfl⟩)
          | (go_at_call 14; refine (all_to rfl Hlist.out RX okR).mono ?_; rintro e w6 ⟨A6, c6, rfl, hO6, hB6⟩; have R6 := ring_at RX hB6; have B6 := BX.trans (hB6.mono BX.size))
          | (go_at_call 17; refine (len_to Hv.out R6).mono ?_; rintro e w' ⟨rfl, rfl⟩)
          )
        all_goals (go_ret; exact ⟨rfl, B6⟩)

theorem own : ownKnob Try.prog.godebug = none := by kernel_rfl
theorem laid : laidOutB Try.prog = true := by kernel_rfl

set_option maxRecDepth 100000 in
theorem lifted (os : Os) (started : os.Started) (H : Type) (enc : TypeId × Value → H) :
    ReturnsInHanded {} Try.checked os 6 .any (Rows.ringRoomSpec.pre6 enc Try.prog Try.f6 Rows.ringRoomRow.domain false) (Rows.ringRoomSpec.post enc Try.prog Try.f6 false true false false) := by
  refine law_lifted (C := Try.checked) (B := 4) own started (by kernel_rfl) Try.func6
    (ChangeSpec.witness6 (enc := enc) (C := Try.checked) false ⟨#[], #[.int .i64 0, .int .i64 0], []⟩ 8 (by kernel_rfl) (by kernel_rfl) (by kernel_rfl) (by kernel_rfl))
    rfl rfl Try.underlying4 laid (of_decide_eq_true (by kernel_rfl)) ?_ ?_
  · intro ds hl
    rw [Try.params6] at hl
    match ds, hl with
    | [d0, d1], _ => rfl
  · intro W base args ds ps hval hA hlt hz
    rw [Try.params6] at hA hval
    obtain ⟨v0, vs0, d0, ds0, p0, q0, hargs, rfl, rfl, h0, r0⟩ := trodAll_cons hA
    obtain ⟨v1, vs1, d1, ds1, p1, q1, rfl, rfl, rfl, h1, r1⟩ := trodAll_cons r0
    obtain ⟨rfl, rfl, rfl⟩ := trodAll_nil r1
    obtain rfl : args = #[v0, v1] := by cases args; simp_all
    obtain ⟨a0, rfl, rfl, rfl, w0⟩ := open_int Try.underlying3 (hval 0 3 v0 rfl rfl) h0
    obtain ⟨a1, rfl, rfl, rfl, w1⟩ := open_int Try.underlying3 (hval 1 3 v1 rfl rfl) h1
    exact walk W a0 w0 a1 w1

theorem over : Rows.ringRoomRow.holds Try.pinned (OpenSpec.ofChange Rows.ringRoomSpec) :=
  OpenClaim.holds_of_wide 6 Try.f6 rfl rfl rfl rfl rfl rfl rfl ⟨rfl, rfl, rfl, rfl, rfl⟩ rfl rfl rfl rfl rfl (by kernel_rfl) Try.func6 (by kernel_rfl)
    (of_decide_eq_true (by kernel_rfl)) (by unfold Func.isWrapper; first | (rw [if_pos (by decide +kernel)]; kernel_rfl) | (rw [if_neg (by decide +kernel)]; exact ⟨rfl, rfl⟩))
    (fun os started H enc _ => lifted os started H enc)

theorem proved : Rows.RingRoomSaid := over
#print axioms proved
end Go.Proofs.Ytiokdfijodfmpaa.ringRoom
