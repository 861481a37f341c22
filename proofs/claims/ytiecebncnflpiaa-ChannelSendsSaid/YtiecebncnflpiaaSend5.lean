/- Package send: what an acknowledgement tells of a flight; what was asked for by its number. -/
import Derived.Test.YtiecebncnflpiaaSend4
namespace Go.Proofs.Ytiecebncnflpiaa
open Go.ChangeShapes Go.WideShapes Go.ChangeAt Go.RowKit Go.Shelf

namespace Sd
/-- Does sack have that bit? -/
def told (sack bit : Int) : Bool := decide (0 ≤ bit ∧ bit < 7) && (bits BinOp.and IntKind.i64 (sack / 2 ^ bit.toNat) 1 == 1)
def gone (ack sack : Int) (f : Fl) : Bool := decide (f.q ≤ ack) || told sack (IntKind.i64.wrap (IntKind.i64.wrap (f.q - ack) - 2))
end Sd
theorem told_to {sack bit : Int} {r : Bool} (hr : Sd.told sack bit = r) (w : World) : Calls Try.prog 61 #[.int .i64 sack, .int .i64 bit] w fun e w' => e = .returned (.bool r) ∧ w = w' := by
  subst hr
  unfold Sd.told
  have hcase : (bit < 0) ∨ (0 ≤ bit ∧ 7 ≤ bit) ∨ (0 ≤ bit ∧ bit < 7) := by omega
  rcases hcase with h | ⟨h0, h⟩ | ⟨h0, h⟩
  · rw [decide_eq_false (show ¬ (0 ≤ bit ∧ bit < 7) by omega), Bool.false_and]
    go_enter Try.func61, Try.ntmps61
    go_wp2
    go_ret
    exact ⟨rfl, rfl⟩
  · rw [decide_eq_false (show ¬ (0 ≤ bit ∧ bit < 7) by omega), Bool.false_and]
    go_enter Try.func61, Try.ntmps61
    go_wp2
    go_ret
    exact ⟨rfl, rfl⟩
  · rw [decide_eq_true (show 0 ≤ bit ∧ bit < 7 by omega), Bool.true_and]
    go_enter Try.func61, Try.ntmps61
    go_wp2
    go_ret
    exact ⟨rfl, rfl⟩
theorem gone_any (w : World) (f : Fl) (ga gs : Nat) (ack sack : Int) (ha : w.cell? ⟨ga, 0, none⟩ = some (.int .i64 ack)) (hs : w.cell? ⟨gs, 0, none⟩ = some (.int .i64 sack)) :
    Calls Try.prog 60 #[f.val, .pointer (some ⟨ga, 0, none⟩), .pointer (some ⟨gs, 0, none⟩)] w fun e w' => e = .returned (.bool (Sd.gone ack sack f)) ∧ Below w.heap.size w w' := by
  obtain ⟨fq, fu, fv, fs, fc, fa, ft⟩ := f
  unfold Sd.gone
  dsimp only
  have hla := World.block_lt_of_cell? w _ ha
  have hls := World.block_lt_of_cell? w _ hs
  have ha' := fun o => (World.cell?_alloc_lt w o ⟨ga, 0, none⟩ hla).trans ha
  have hs' := fun o => (World.cell?_alloc_lt w o ⟨gs, 0, none⟩ hls).trans hs
  by_cases h : fq ≤ ack
  · rw [decide_eq_true h, Bool.true_or]
    go_enter Try.func60, Try.ntmps60
    go_wp2
    go_ret
    exact ⟨rfl, (Below.refl _ _).alloc (Nat.le_refl _) _⟩
  · obtain ⟨r, hr⟩ : ∃ r, Sd.told sack (IntKind.i64.wrap (IntKind.i64.wrap (fq - ack) - 2)) = r := ⟨_, rfl⟩
    rw [decide_eq_false h, Bool.false_or, hr]
    obtain ⟨x, hx⟩ : ∃ x, IntKind.i64.wrap (fq - ack) = x := ⟨_, rfl⟩
    rw [hx] at hr
    obtain ⟨y, hy⟩ : ∃ y, IntKind.i64.wrap (x - 2) = y := ⟨_, rfl⟩
    rw [hy] at hr
    have HR := Lib.hid hr
    have h' : ack < fq := by omega
    clear hr
    go_enter Try.func60, Try.ntmps60
    go_wp2_with (first
      | (go_at_call 61; refine (told_to HR.out _).mono ?_; rintro e w' ⟨rfl, rfl⟩))
    go_ret
    exact ⟨rfl, (Below.refl _ _).alloc (Nat.le_refl _) _⟩
theorem is_any (w : World) (f : Fl) (gs : Nat) (seq : Int) (hs : w.cell? ⟨gs, 0, none⟩ = some (.int .i64 seq)) :
    Calls Try.prog 66 #[f.val, .pointer (some ⟨gs, 0, none⟩)] w fun e w' => e = .returned (.bool (f.q == seq)) ∧ Below w.heap.size w w' := by
  obtain ⟨fq, fu, fv, fs, fc, fa, ft⟩ := f
  dsimp only
  have hls := World.block_lt_of_cell? w _ hs
  have hs' := fun o => (World.cell?_alloc_lt w o ⟨gs, 0, none⟩ hls).trans hs
  go_enter Try.func66, Try.ntmps66
  go_wp2
  go_ret
  exact ⟨rfl, (Below.refl _ _).alloc (Nat.le_refl _) _⟩
end Go.Proofs.Ytiecebncnflpiaa
