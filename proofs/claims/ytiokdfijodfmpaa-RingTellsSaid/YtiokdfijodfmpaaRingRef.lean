/- What the functions of the document's own ring come to. -/
import Derived.Test.YtiokdfijodfmpaaRing3
import Derived.Test.YtiokdfijodfmpaaMem7
namespace Go.Proofs.Ytiokdfijodfmpaa.ref08
open Go.ChangeShapes Go.WideShapes Go.ChangeAt Go.RowKit

abbrev rT : TypeId := 43
/-- The document's ring in block g: it holds L, behind g. -/
def RHalf (w : World) (g : Nat) (L : List Int) (room gone : Int) : Prop :=
  ∃ A c, w.heap[g]? = some (.cells #[.slice A L.length c, .int .i64 room, .int .i64 gone] rT) ∧ Nums .i64 w A L ∧ L.length ≤ c ∧ c ≤ 9223372036854775807 ∧ (∀ a, A = some a → g < a.block)
theorem RHalf.lt {w : World} {g : Nat} {L : List Int} {room gone : Int} (h : RHalf w g L room gone) : g < w.heap.size := by
  obtain ⟨A, c, h1, -⟩ := h
  exact row_lt h1
theorem RHalf.below {w w' : World} {g : Nat} {L : List Int} {room gone : Int} (h : RHalf w g L room gone) (hb : Below w.heap.size w w') : RHalf w' g L room gone := by
  obtain ⟨A, c, h1, hN, r⟩ := h
  exact ⟨A, c, row_kept h1 hb (row_lt h1), hN.below hb, r⟩
theorem new_any (room : Int) (w : World) :
    Calls Try.prog 9 #[.int .i64 room] w fun e w' => e = .returned (.pointer (some ⟨w.heap.size, 0, none⟩)) ∧ RHalf w' w.heap.size [] (min (max room 1) 64) 0 ∧ Below w.heap.size w w' := by
  obtain ⟨m, hm⟩ : ∃ m, m = min (max room 1) 64 := ⟨_, rfl⟩
  rw [← hm]
  have Hm := Lib.hid hm
  clear hm
  have z0 : ∀ W, (zeroValue rT).run Try.prog W = .ok (.agg #[.slice none 0 0, .int .i64 0, .int .i64 0]) W := fun W => by kernel_rfl
  have key : ∀ z : Int, z = m → RHalf (w.alloc (.cells #[.slice none 0 0, .int .i64 z, .int .i64 0] rT)) w.heap.size [] m 0 := fun z hz => by
    subst hz
    exact ⟨none, 0, (MapKept.heap_alloc _ _).1, Nums.nil, by simp, by decide, fun _ h => by cases h⟩
  go_enter Try.func9, Try.ntmps9
  go_wp2
  all_goals
    go_ret
    exact ⟨rfl, key _ (by have := Hm.out; omega), (Below.refl _ _).alloc (Nat.le_refl _) _⟩
theorem len_any {w : World} {g : Nat} {L : List Int} {room gone : Int} (h : RHalf w g L room gone) :
    Calls Try.prog 18 #[.pointer (some ⟨g, 0, none⟩)] w fun e w' => e = .returned (.int .i64 L.length) ∧ w = w' := by
  obtain ⟨A, c, h1, -⟩ := h
  have K := row_cells h1
  clear h1
  go_enter Try.func18, Try.ntmps18
  go_wp2
  go_ret
  exact ⟨rfl, rfl⟩
theorem lost_any {w : World} {g : Nat} {L : List Int} {room gone : Int} (h : RHalf w g L room gone) :
    Calls Try.prog 20 #[.pointer (some ⟨g, 0, none⟩)] w fun e w' => e = .returned (.int .i64 gone) ∧ w = w' := by
  obtain ⟨A, c, h1, -⟩ := h
  have K := row_cells h1
  clear h1
  go_enter Try.func20, Try.ntmps20
  go_wp2
  go_ret
  exact ⟨rfl, rfl⟩
theorem last_none {w : World} {g : Nat} {room gone : Int} (h : RHalf w g [] room gone) :
    Calls Try.prog 13 #[.pointer (some ⟨g, 0, none⟩)] w fun e w' => e = .returned (.tuple #[.int .i64 0, .bool false]) ∧ w = w' := by
  obtain ⟨A, c, h1, -⟩ := h
  have K := row_cells h1
  clear h1
  go_enter Try.func13, Try.ntmps13
  go_wp2
  go_ret2
  exact ⟨rfl, rfl⟩
theorem last_some {w : World} {g : Nat} {L : List Int} {room gone v : Int} {n : Nat} (hL : L.length = n + 1) (hv : L.getD n 0 = v) (hn : n ≤ 1000000) (h : RHalf w g L room gone) :
    Calls Try.prog 13 #[.pointer (some ⟨g, 0, none⟩)] w fun e w' => e = .returned (.tuple #[.int .i64 v, .bool true]) ∧ ∃ n, w' = w.drewN n := by
  obtain ⟨A, c, h1, hN, -⟩ := h
  obtain ⟨b, off, rfl, hb, hcell⟩ := hN.at (i := n) (by omega)
  rw [hv] at hcell
  rw [hL] at h1
  have K := row_cells h1
  clear h1 hN
  have e0 : ((n + 1 : Nat) : Int) = (n : Int) + 1 := by omega
  have e1 : IntKind.i64.wrap ((n : Int) + 1 - 1) = (n : Int) := by rw [show (n : Int) + 1 - 1 = n by omega]; exact IntWalk.i64_in _ (by omega)
  have e2 : IntKind.i64.wrap (n : Int) = (n : Int) := IntWalk.i64_in _ (by omega)
  have q1 : (n : Int) < (n : Int) + 1 := by omega
  have q0 : (0 : Int) ≤ (n : Int) := by omega
  have hne : ¬ ((n : Int) + 1 = 0) := by omega
  go_enter Try.func13, Try.ntmps13
  go_wp2
  go_quiet (fail)
  go_wp2
  go_ret2
  exact ⟨rfl, _, rfl⟩
set_option maxHeartbeats 1000000 in
theorem all_any {w : World} {g : Nat} {L : List Int} {room gone : Int} (h : RHalf w g L room gone) (hlen : L.length ≤ 1000000) :
    Calls Try.prog 16 #[.pointer (some ⟨g, 0, none⟩)] w fun e w' => ∃ A' c', e = .returned (.slice A' L.length c') ∧ OwnN .i64 3 w.heap.size w' A' c' L ∧ Below w.heap.size w w' := by
  have hg := h.lt
  obtain ⟨A, c, h1, hN, -⟩ := h
  obtain ⟨i0, hi, hz0, hz1, hz2⟩ := info_parts info
  have HI := Lib.hid (And.intro hi (And.intro hz0 (And.intro hz1 hz2)))
  have h0 := row_kept h1 ((Below.refl w.heap.size w).alloc (Nat.le_refl _) (.cells #[] 3)) hg
  have K := row_cells h0
  have HN := Lib.hid hN
  clear hi hz0 hz1 hz2 hN h1 h0
  go_enter Try.func16, Try.ntmps16
  go_wp2_with (first
    | (at_builtin; refine wpList_append_rowA rfl _ _ 28 rfl i0 8 Try.underlying28 HI.out.1 HI.out.2.1 HI.out.2.2.1 HI.out.2.2.2 (by decide) 0 rfl rfl (OwnN.empty (base := w.heap.size) (Nat.le_refl _)) A L.length _ L rfl rfl (HN.out.alloc _) (by simp <;> omega) w.heap.size w (Nat.le_refl _) ((Below.refl _ _).alloc (Nat.le_refl _) _) ?_; intro A4 c4 w4 hO4 hB4)
    )
  go_ret
  exact ⟨A4, c4, by simp, by simpa using hO4, hB4⟩
end Go.Proofs.Ytiokdfijodfmpaa.ref08
