/- Texts of this proof, merged: Mem2, Dig0, Tail. -/
import Derived.Test.YtpglhkjgcahdbaaDoorQ1
import Derived.Test.YtpglhkjgcahdbaaDoorRows
import Derived.WalkKit
import Derived.ProofKit
import Derived.OpenShut
import Derived.Outline
import Derived.Lib.Hide
import Derived.Deep.QuietTactic
import Derived.BigQuiet
import Derived.StillTailTactics
/- More of memory: kept apart so that what is built over Mem need not be built again. -/
namespace Go.Proofs.YtpglhkjgcahdbaaDoor
open Go.ChangeShapes Go.WideShapes Go.ChangeAt Go.RowKit
theorem lt_kept {w w' : World} {B g : Nat} (h : g < w.heap.size) (hb : Below B w w') : g < w'.heap.size := Nat.lt_of_lt_of_le h hb.size
theorem cells_kept {w w' : World} {g : Nat} {f : Nat → Option Value} (K : ∀ i, w.cell? ⟨g, i, none⟩ = f i) (hb : Below w.heap.size w w') (hg : g < w.heap.size) : ∀ i, w'.cell? ⟨g, i, none⟩ = f i :=
  fun i => (hb.cell (p := ⟨g, i, none⟩) hg).trans (K i)
/-- What a walk needs of one block of the call's own that is written again and again: rules without a condition. -/
structure Rows1 (w : World) (g : Nat) (t : TypeId) (cs : Array Value) : Prop where
  set0 : ∀ i u, w.setCell ⟨g, i, none⟩ u = setRow w g t (cs.setIfInBounds i u)
  set1 : ∀ ds i u, (setRow w g t ds).setCell ⟨g, i, none⟩ u = setRow w g t (ds.setIfInBounds i u)
  cell0 : ∀ i, w.cell? ⟨g, i, none⟩ = cs[i]?
  cell1 : ∀ ds i, (setRow w g t ds).cell? ⟨g, i, none⟩ = ds[i]?
  frozen0 : ∀ i, w.frozen? ⟨g, i, none⟩ = false
  frozen1 : ∀ ds i, (setRow w g t ds).frozen? ⟨g, i, none⟩ = false
  size1 : ∀ ds, (setRow w g t ds).heap.size = w.heap.size
theorem rows1 {w : World} {g : Nat} {t : TypeId} {cs : Array Value} (h1 : w.heap[g]? = some (.cells cs t)) : Rows1 w g t cs := by
  have l1 := row_lt h1
  exact ⟨setCell_row h1, fun ds => setRow_set l1, fun i => cell_of_row _ _ _ _ _ _ h1, fun ds => setRow_cell l1, frozen_row h1, fun ds => frozen_row (setRow_row l1), fun ds => setRow_size⟩
theorem row_written {w : World} {g : Nat} {t : TypeId} {cs ds : Array Value} (h : w.heap[g]? = some (.cells cs t)) : (setRow w g t ds).heap[g]? = some (.cells ds t) := setRow_row (row_lt h)
end Go.Proofs.YtpglhkjgcahdbaaDoor
namespace Go.Proofs.YtpglhkjgcahdbaaDoor
open Go.ChangeShapes Go.WideShapes Go.ChangeAt Go.RowKit
theorem ret_u32 {a b : Int} (h : a = b) : Ending.returned (.int .u32 a) = .returned (.int .u32 b) := by rw [h]
theorem rot2 (x : Sha.W) (w : World) :
    Calls Tryd.prog 80 #[.int .u32 (Sha.u x), .int .i64 (-2)] w fun e w' => e = .returned (.int .u32 (Sha.u (Sha.rr x 2))) ∧ w = w' := by
  have h0 := Sha.u_lo x
  have h1 := Sha.u_hi x
  have e : bits .and .u64 (IntKind.u64.wrap (-2)) 31 = 30 := by decide
  go_enter Tryd.func80, Tryd.ntmps80
  go_wp2
  go_ret
  exact ⟨ret_u32 (Sha.rot_u x 2 30 1073741824 4 (by decide) (by decide) (by decide)), rfl⟩
theorem right2 (x : Sha.W) (w : World) :
    Calls Tryd.prog 76 #[.int .u32 (Sha.u x), .int .i64 2] w fun e w' => e = .returned (.int .u32 (Sha.u (Sha.rr x 2))) ∧ w = w' := by
  have h0 := Sha.u_lo x
  have h1 := Sha.u_hi x
  go_enter Tryd.func76, Tryd.ntmps76
  go_wp2_with (go_at_call 80; refine (rot2 _ _).mono ?_; rintro e w' ⟨rfl, rfl⟩)
  go_ret
  exact ⟨rfl, rfl⟩
theorem rot6 (x : Sha.W) (w : World) :
    Calls Tryd.prog 80 #[.int .u32 (Sha.u x), .int .i64 (-6)] w fun e w' => e = .returned (.int .u32 (Sha.u (Sha.rr x 6))) ∧ w = w' := by
  have h0 := Sha.u_lo x
  have h1 := Sha.u_hi x
  have e : bits .and .u64 (IntKind.u64.wrap (-6)) 31 = 26 := by decide
  go_enter Tryd.func80, Tryd.ntmps80
  go_wp2
  go_ret
  exact ⟨ret_u32 (Sha.rot_u x 6 26 67108864 64 (by decide) (by decide) (by decide)), rfl⟩
theorem right6 (x : Sha.W) (w : World) :
    Calls Tryd.prog 76 #[.int .u32 (Sha.u x), .int .i64 6] w fun e w' => e = .returned (.int .u32 (Sha.u (Sha.rr x 6))) ∧ w = w' := by
  have h0 := Sha.u_lo x
  have h1 := Sha.u_hi x
  go_enter Tryd.func76, Tryd.ntmps76
  go_wp2_with (go_at_call 80; refine (rot6 _ _).mono ?_; rintro e w' ⟨rfl, rfl⟩)
  go_ret
  exact ⟨rfl, rfl⟩
theorem rot7 (x : Sha.W) (w : World) :
    Calls Tryd.prog 80 #[.int .u32 (Sha.u x), .int .i64 (-7)] w fun e w' => e = .returned (.int .u32 (Sha.u (Sha.rr x 7))) ∧ w = w' := by
  have h0 := Sha.u_lo x
  have h1 := Sha.u_hi x
  have e : bits .and .u64 (IntKind.u64.wrap (-7)) 31 = 25 := by decide
  go_enter Tryd.func80, Tryd.ntmps80
  go_wp2
  go_ret
  exact ⟨ret_u32 (Sha.rot_u x 7 25 33554432 128 (by decide) (by decide) (by decide)), rfl⟩
theorem right7 (x : Sha.W) (w : World) :
    Calls Tryd.prog 76 #[.int .u32 (Sha.u x), .int .i64 7] w fun e w' => e = .returned (.int .u32 (Sha.u (Sha.rr x 7))) ∧ w = w' := by
  have h0 := Sha.u_lo x
  have h1 := Sha.u_hi x
  go_enter Tryd.func76, Tryd.ntmps76
  go_wp2_with (go_at_call 80; refine (rot7 _ _).mono ?_; rintro e w' ⟨rfl, rfl⟩)
  go_ret
  exact ⟨rfl, rfl⟩
theorem rot11 (x : Sha.W) (w : World) :
    Calls Tryd.prog 80 #[.int .u32 (Sha.u x), .int .i64 (-11)] w fun e w' => e = .returned (.int .u32 (Sha.u (Sha.rr x 11))) ∧ w = w' := by
  have h0 := Sha.u_lo x
  have h1 := Sha.u_hi x
  have e : bits .and .u64 (IntKind.u64.wrap (-11)) 31 = 21 := by decide
  go_enter Tryd.func80, Tryd.ntmps80
  go_wp2
  go_ret
  exact ⟨ret_u32 (Sha.rot_u x 11 21 2097152 2048 (by decide) (by decide) (by decide)), rfl⟩
theorem right11 (x : Sha.W) (w : World) :
    Calls Tryd.prog 76 #[.int .u32 (Sha.u x), .int .i64 11] w fun e w' => e = .returned (.int .u32 (Sha.u (Sha.rr x 11))) ∧ w = w' := by
  have h0 := Sha.u_lo x
  have h1 := Sha.u_hi x
  go_enter Tryd.func76, Tryd.ntmps76
  go_wp2_with (go_at_call 80; refine (rot11 _ _).mono ?_; rintro e w' ⟨rfl, rfl⟩)
  go_ret
  exact ⟨rfl, rfl⟩
theorem rot13 (x : Sha.W) (w : World) :
    Calls Tryd.prog 80 #[.int .u32 (Sha.u x), .int .i64 (-13)] w fun e w' => e = .returned (.int .u32 (Sha.u (Sha.rr x 13))) ∧ w = w' := by
  have h0 := Sha.u_lo x
  have h1 := Sha.u_hi x
  have e : bits .and .u64 (IntKind.u64.wrap (-13)) 31 = 19 := by decide
  go_enter Tryd.func80, Tryd.ntmps80
  go_wp2
  go_ret
  exact ⟨ret_u32 (Sha.rot_u x 13 19 524288 8192 (by decide) (by decide) (by decide)), rfl⟩
theorem right13 (x : Sha.W) (w : World) :
    Calls Tryd.prog 76 #[.int .u32 (Sha.u x), .int .i64 13] w fun e w' => e = .returned (.int .u32 (Sha.u (Sha.rr x 13))) ∧ w = w' := by
  have h0 := Sha.u_lo x
  have h1 := Sha.u_hi x
  go_enter Tryd.func76, Tryd.ntmps76
  go_wp2_with (go_at_call 80; refine (rot13 _ _).mono ?_; rintro e w' ⟨rfl, rfl⟩)
  go_ret
  exact ⟨rfl, rfl⟩
theorem rot17 (x : Sha.W) (w : World) :
    Calls Tryd.prog 80 #[.int .u32 (Sha.u x), .int .i64 (-17)] w fun e w' => e = .returned (.int .u32 (Sha.u (Sha.rr x 17))) ∧ w = w' := by
  have h0 := Sha.u_lo x
  have h1 := Sha.u_hi x
  have e : bits .and .u64 (IntKind.u64.wrap (-17)) 31 = 15 := by decide
  go_enter Tryd.func80, Tryd.ntmps80
  go_wp2
  go_ret
  exact ⟨ret_u32 (Sha.rot_u x 17 15 32768 131072 (by decide) (by decide) (by decide)), rfl⟩
theorem right17 (x : Sha.W) (w : World) :
    Calls Tryd.prog 76 #[.int .u32 (Sha.u x), .int .i64 17] w fun e w' => e = .returned (.int .u32 (Sha.u (Sha.rr x 17))) ∧ w = w' := by
  have h0 := Sha.u_lo x
  have h1 := Sha.u_hi x
  go_enter Tryd.func76, Tryd.ntmps76
  go_wp2_with (go_at_call 80; refine (rot17 _ _).mono ?_; rintro e w' ⟨rfl, rfl⟩)
  go_ret
  exact ⟨rfl, rfl⟩
theorem rot18 (x : Sha.W) (w : World) :
    Calls Tryd.prog 80 #[.int .u32 (Sha.u x), .int .i64 (-18)] w fun e w' => e = .returned (.int .u32 (Sha.u (Sha.rr x 18))) ∧ w = w' := by
  have h0 := Sha.u_lo x
  have h1 := Sha.u_hi x
  have e : bits .and .u64 (IntKind.u64.wrap (-18)) 31 = 14 := by decide
  go_enter Tryd.func80, Tryd.ntmps80
  go_wp2
  go_ret
  exact ⟨ret_u32 (Sha.rot_u x 18 14 16384 262144 (by decide) (by decide) (by decide)), rfl⟩
theorem right18 (x : Sha.W) (w : World) :
    Calls Tryd.prog 76 #[.int .u32 (Sha.u x), .int .i64 18] w fun e w' => e = .returned (.int .u32 (Sha.u (Sha.rr x 18))) ∧ w = w' := by
  have h0 := Sha.u_lo x
  have h1 := Sha.u_hi x
  go_enter Tryd.func76, Tryd.ntmps76
  go_wp2_with (go_at_call 80; refine (rot18 _ _).mono ?_; rintro e w' ⟨rfl, rfl⟩)
  go_ret
  exact ⟨rfl, rfl⟩
theorem rot19 (x : Sha.W) (w : World) :
    Calls Tryd.prog 80 #[.int .u32 (Sha.u x), .int .i64 (-19)] w fun e w' => e = .returned (.int .u32 (Sha.u (Sha.rr x 19))) ∧ w = w' := by
  have h0 := Sha.u_lo x
  have h1 := Sha.u_hi x
  have e : bits .and .u64 (IntKind.u64.wrap (-19)) 31 = 13 := by decide
  go_enter Tryd.func80, Tryd.ntmps80
  go_wp2
  go_ret
  exact ⟨ret_u32 (Sha.rot_u x 19 13 8192 524288 (by decide) (by decide) (by decide)), rfl⟩
theorem right19 (x : Sha.W) (w : World) :
    Calls Tryd.prog 76 #[.int .u32 (Sha.u x), .int .i64 19] w fun e w' => e = .returned (.int .u32 (Sha.u (Sha.rr x 19))) ∧ w = w' := by
  have h0 := Sha.u_lo x
  have h1 := Sha.u_hi x
  go_enter Tryd.func76, Tryd.ntmps76
  go_wp2_with (go_at_call 80; refine (rot19 _ _).mono ?_; rintro e w' ⟨rfl, rfl⟩)
  go_ret
  exact ⟨rfl, rfl⟩
theorem rot22 (x : Sha.W) (w : World) :
    Calls Tryd.prog 80 #[.int .u32 (Sha.u x), .int .i64 (-22)] w fun e w' => e = .returned (.int .u32 (Sha.u (Sha.rr x 22))) ∧ w = w' := by
  have h0 := Sha.u_lo x
  have h1 := Sha.u_hi x
  have e : bits .and .u64 (IntKind.u64.wrap (-22)) 31 = 10 := by decide
  go_enter Tryd.func80, Tryd.ntmps80
  go_wp2
  go_ret
  exact ⟨ret_u32 (Sha.rot_u x 22 10 1024 4194304 (by decide) (by decide) (by decide)), rfl⟩
theorem right22 (x : Sha.W) (w : World) :
    Calls Tryd.prog 76 #[.int .u32 (Sha.u x), .int .i64 22] w fun e w' => e = .returned (.int .u32 (Sha.u (Sha.rr x 22))) ∧ w = w' := by
  have h0 := Sha.u_lo x
  have h1 := Sha.u_hi x
  go_enter Tryd.func76, Tryd.ntmps76
  go_wp2_with (go_at_call 80; refine (rot22 _ _).mono ?_; rintro e w' ⟨rfl, rfl⟩)
  go_ret
  exact ⟨rfl, rfl⟩
theorem rot25 (x : Sha.W) (w : World) :
    Calls Tryd.prog 80 #[.int .u32 (Sha.u x), .int .i64 (-25)] w fun e w' => e = .returned (.int .u32 (Sha.u (Sha.rr x 25))) ∧ w = w' := by
  have h0 := Sha.u_lo x
  have h1 := Sha.u_hi x
  have e : bits .and .u64 (IntKind.u64.wrap (-25)) 31 = 7 := by decide
  go_enter Tryd.func80, Tryd.ntmps80
  go_wp2
  go_ret
  exact ⟨ret_u32 (Sha.rot_u x 25 7 128 33554432 (by decide) (by decide) (by decide)), rfl⟩
theorem right25 (x : Sha.W) (w : World) :
    Calls Tryd.prog 76 #[.int .u32 (Sha.u x), .int .i64 25] w fun e w' => e = .returned (.int .u32 (Sha.u (Sha.rr x 25))) ∧ w = w' := by
  have h0 := Sha.u_lo x
  have h1 := Sha.u_hi x
  go_enter Tryd.func76, Tryd.ntmps76
  go_wp2_with (go_at_call 80; refine (rot25 _ _).mono ?_; rintro e w' ⟨rfl, rfl⟩)
  go_ret
  exact ⟨rfl, rfl⟩
theorem turn2 (x : Sha.W) (w : World) :
    Calls Tryd.prog 79 #[.int .u32 (Sha.u x), .int .i64 2] w fun e w' => e = .returned (.int .u32 (Sha.u (Sha.rr x 2))) ∧ ∃ m, w' = w.drewN m := by
  have h0 := Sha.u_lo x
  have h1 := Sha.u_hi x
  go_enter Tryd.func79, Tryd.ntmps79
  go_wp2
  go_quiet (fail)
  go_wp2
  go_ret
  exact ⟨ret_u32 (Sha.rot_u' x 2 30 1073741824 4 (by decide) (by decide) (by decide)), _, rfl⟩
theorem turn6 (x : Sha.W) (w : World) :
    Calls Tryd.prog 79 #[.int .u32 (Sha.u x), .int .i64 6] w fun e w' => e = .returned (.int .u32 (Sha.u (Sha.rr x 6))) ∧ ∃ m, w' = w.drewN m := by
  have h0 := Sha.u_lo x
  have h1 := Sha.u_hi x
  go_enter Tryd.func79, Tryd.ntmps79
  go_wp2
  go_quiet (fail)
  go_wp2
  go_ret
  exact ⟨ret_u32 (Sha.rot_u' x 6 26 67108864 64 (by decide) (by decide) (by decide)), _, rfl⟩
theorem turn7 (x : Sha.W) (w : World) :
    Calls Tryd.prog 79 #[.int .u32 (Sha.u x), .int .i64 7] w fun e w' => e = .returned (.int .u32 (Sha.u (Sha.rr x 7))) ∧ ∃ m, w' = w.drewN m := by
  have h0 := Sha.u_lo x
  have h1 := Sha.u_hi x
  go_enter Tryd.func79, Tryd.ntmps79
  go_wp2
  go_quiet (fail)
  go_wp2
  go_ret
  exact ⟨ret_u32 (Sha.rot_u' x 7 25 33554432 128 (by decide) (by decide) (by decide)), _, rfl⟩
theorem turn11 (x : Sha.W) (w : World) :
    Calls Tryd.prog 79 #[.int .u32 (Sha.u x), .int .i64 11] w fun e w' => e = .returned (.int .u32 (Sha.u (Sha.rr x 11))) ∧ ∃ m, w' = w.drewN m := by
  have h0 := Sha.u_lo x
  have h1 := Sha.u_hi x
  go_enter Tryd.func79, Tryd.ntmps79
  go_wp2
  go_quiet (fail)
  go_wp2
  go_ret
  exact ⟨ret_u32 (Sha.rot_u' x 11 21 2097152 2048 (by decide) (by decide) (by decide)), _, rfl⟩
theorem turn13 (x : Sha.W) (w : World) :
    Calls Tryd.prog 79 #[.int .u32 (Sha.u x), .int .i64 13] w fun e w' => e = .returned (.int .u32 (Sha.u (Sha.rr x 13))) ∧ ∃ m, w' = w.drewN m := by
  have h0 := Sha.u_lo x
  have h1 := Sha.u_hi x
  go_enter Tryd.func79, Tryd.ntmps79
  go_wp2
  go_quiet (fail)
  go_wp2
  go_ret
  exact ⟨ret_u32 (Sha.rot_u' x 13 19 524288 8192 (by decide) (by decide) (by decide)), _, rfl⟩
theorem turn17 (x : Sha.W) (w : World) :
    Calls Tryd.prog 79 #[.int .u32 (Sha.u x), .int .i64 17] w fun e w' => e = .returned (.int .u32 (Sha.u (Sha.rr x 17))) ∧ ∃ m, w' = w.drewN m := by
  have h0 := Sha.u_lo x
  have h1 := Sha.u_hi x
  go_enter Tryd.func79, Tryd.ntmps79
  go_wp2
  go_quiet (fail)
  go_wp2
  go_ret
  exact ⟨ret_u32 (Sha.rot_u' x 17 15 32768 131072 (by decide) (by decide) (by decide)), _, rfl⟩
theorem turn18 (x : Sha.W) (w : World) :
    Calls Tryd.prog 79 #[.int .u32 (Sha.u x), .int .i64 18] w fun e w' => e = .returned (.int .u32 (Sha.u (Sha.rr x 18))) ∧ ∃ m, w' = w.drewN m := by
  have h0 := Sha.u_lo x
  have h1 := Sha.u_hi x
  go_enter Tryd.func79, Tryd.ntmps79
  go_wp2
  go_quiet (fail)
  go_wp2
  go_ret
  exact ⟨ret_u32 (Sha.rot_u' x 18 14 16384 262144 (by decide) (by decide) (by decide)), _, rfl⟩
theorem turn19 (x : Sha.W) (w : World) :
    Calls Tryd.prog 79 #[.int .u32 (Sha.u x), .int .i64 19] w fun e w' => e = .returned (.int .u32 (Sha.u (Sha.rr x 19))) ∧ ∃ m, w' = w.drewN m := by
  have h0 := Sha.u_lo x
  have h1 := Sha.u_hi x
  go_enter Tryd.func79, Tryd.ntmps79
  go_wp2
  go_quiet (fail)
  go_wp2
  go_ret
  exact ⟨ret_u32 (Sha.rot_u' x 19 13 8192 524288 (by decide) (by decide) (by decide)), _, rfl⟩
theorem turn22 (x : Sha.W) (w : World) :
    Calls Tryd.prog 79 #[.int .u32 (Sha.u x), .int .i64 22] w fun e w' => e = .returned (.int .u32 (Sha.u (Sha.rr x 22))) ∧ ∃ m, w' = w.drewN m := by
  have h0 := Sha.u_lo x
  have h1 := Sha.u_hi x
  go_enter Tryd.func79, Tryd.ntmps79
  go_wp2
  go_quiet (fail)
  go_wp2
  go_ret
  exact ⟨ret_u32 (Sha.rot_u' x 22 10 1024 4194304 (by decide) (by decide) (by decide)), _, rfl⟩
theorem turn25 (x : Sha.W) (w : World) :
    Calls Tryd.prog 79 #[.int .u32 (Sha.u x), .int .i64 25] w fun e w' => e = .returned (.int .u32 (Sha.u (Sha.rr x 25))) ∧ ∃ m, w' = w.drewN m := by
  have h0 := Sha.u_lo x
  have h1 := Sha.u_hi x
  go_enter Tryd.func79, Tryd.ntmps79
  go_wp2
  go_quiet (fail)
  go_wp2
  go_ret
  exact ⟨ret_u32 (Sha.rot_u' x 25 7 128 33554432 (by decide) (by decide) (by decide)), _, rfl⟩
/-- The numbers by which words are turned. -/
def Rot (m : Int) : Bool := m ∈ [2, 6, 7, 11, 13, 17, 18, 19, 22, 25]
theorem rot_cases {m : Int} (h : Rot m = true) : m = 2 ∨ m = 6 ∨ m = 7 ∨ m = 11 ∨ m = 13 ∨ m = 17 ∨ m = 18 ∨ m = 19 ∨ m = 22 ∨ m = 25 := by simpa [Rot] using h
theorem right_any (x : Sha.W) (m : Int) (hm : Rot m = true) (w : World) :
    Calls Tryd.prog 76 #[.int .u32 (Sha.u x), .int .i64 m] w fun e w' => e = .returned (.int .u32 (Sha.u (Sha.rr x m.toNat))) ∧ w = w' := by
  rcases rot_cases hm with rfl | rfl | rfl | rfl | rfl | rfl | rfl | rfl | rfl | rfl
  · exact right2 x w
  · exact right6 x w
  · exact right7 x w
  · exact right11 x w
  · exact right13 x w
  · exact right17 x w
  · exact right18 x w
  · exact right19 x w
  · exact right22 x w
  · exact right25 x w
theorem turn_any (x : Sha.W) (m : Int) (hm : Rot m = true) (w : World) :
    Calls Tryd.prog 79 #[.int .u32 (Sha.u x), .int .i64 m] w fun e w' => e = .returned (.int .u32 (Sha.u (Sha.rr x m.toNat))) ∧ ∃ m, w' = w.drewN m := by
  rcases rot_cases hm with rfl | rfl | rfl | rfl | rfl | rfl | rfl | rfl | rfl | rfl
  · exact turn2 x w
  · exact turn6 x w
  · exact turn7 x w
  · exact turn11 x w
  · exact turn13 x w
  · exact turn17 x w
  · exact turn18 x w
  · exact turn19 x w
  · exact turn22 x w
  · exact turn25 x w
end Go.Proofs.YtpglhkjgcahdbaaDoor
/- A region that draws its order, whose operations but the last ones only read (callees that only read may draw), and whose last ones, in one forced order, do what they like: one walk of the text's order, then the tail. The library has this for callees that leave the very same world (Derived/StillTail) and, without a tail, for those that draw (Derived/Deep/Quiet): here both at once; the lemmas on orders are theirs. No program in it. -/
namespace Go.Proofs.YtpglhkjgcahdbaaDoor
open Go
section
variable {P : Program} {ops : Array Oper} {md : Region.Mode} {C : World → Prop}

/-- Whatever order the head's operations are taken in: none of the tail comes up, and then L. -/
def HeadQ (P : Program) (md : Region.Mode) (ops : Array Oper) (C : World → Prop) (n : Nat) (L : Array Bool → Act → Prop) : Nat → Array Bool → Act → Prop
  | 0, listed, a => L listed a
  | f + 1, listed, a => Region.ready md ops listed ≠ [] ∧ ∀ i ∈ Region.ready md ops listed, i < n ∧ qOp P ops C i (HeadQ P md ops C n L f (listed.setIfInBounds i true)) a

theorem wpAny_of_headQ {n g : Nat} {L : Array Bool → Act → Prop} {Q' : Exit → Act → World → Prop} (hL : ∀ listed a w, C w → L listed a → wpAny P md ops Q' g listed a w) :
    ∀ (f : Nat) (listed : Array Bool) (a : Act) (w : World), C w → HeadQ P md ops C n L f listed a → wpAny P md ops Q' (f + g) listed a w
  | 0, _, _, _, hw, h => by rw [Nat.zero_add]; exact hL _ _ _ hw h
  | f + 1, listed, a, w, hw, h => by
    have e : f + 1 + g = (f + g) + 1 := by omega
    rw [e]
    exact ⟨fun h0 => absurd h0 h.1, fun i hi => wpOp_of_qOp hw (fun a' w' hw' h' => wpAny_of_headQ hL f _ a' w' hw' h') (h.2 i hi).2⟩

theorem headQ_first {n i : Nat} {oi : Oper} {v : Value} {L : Array Bool → Act → Prop} (hi : ops[i]? = some oi) (hsel : ∀ (j : Nat) (o : Oper) cs b, ops[j]? = some o → o.op ≠ .select cs b)
    (hs : Region.sinkB md ops n = true) (hc : Region.chainB md ops n = true) (hn : n < ops.size) (hin : i < n) (hdone : ∀ listed a, L listed a → ∀ j ∈ Region.ready md ops listed, n ≤ j) (f : Nat) :
    ∀ (listed : Array Bool) (a : Act), HeadInv md ops n listed →
      (∀ j oj, ops[j]? = some oj → j ≠ i → listed.getD j true = false → (∀ e ∈ oj.after, Region.binds md e = true → e.on ≠ i) → oi.apart ops oj = true) →
      i ∈ Region.ready md ops listed → YieldsIn P ops C oi v a → HeadQ P md ops C n L f (listed.setIfInBounds i true) (a.put oi.dst v) → HeadQ P md ops C n L (f + 1) listed a := by
  have low : ∀ {listed : Array Bool}, HeadInv md ops n listed → i ∈ Region.ready md ops listed → ∀ j ∈ Region.ready md ops listed, j < n := fun inv hr j hj => by
    by_cases h : j < n
    · exact h
    · exact absurd hj (tail_waits hs hc hn inv _ i rfl hin (mem_ready.1 hr).1 j (by omega))
  induction f with
  | zero =>
    intro listed a inv _ hr hy H
    refine ⟨List.ne_nil_of_mem hr, fun j hj => ⟨low inv hr j hj, ?_⟩⟩
    by_cases hji : j = i
    · subst hji; exact hy.qOp hi H
    · exact absurd (low inv hr j hj) (by have := hdone _ _ H j (ready_mono hj hji); omega)
  | succ f ih =>
    intro listed a inv hfree hr hy H
    refine ⟨List.ne_nil_of_mem hr, fun j hj => ⟨low inv hr j hj, ?_⟩⟩
    by_cases hji : j = i
    · subst hji; exact hy.qOp hi H
    · obtain ⟨hjun, oj, hoj, hall⟩ := mem_ready.1 hj
      have hnot : ∀ e ∈ oj.after, Region.binds md e = true → e.on ≠ i := fun e he hb heq => by
        have h1 := hall e he hb
        rw [heq, getD_both (mem_ready.1 hr).1] at h1
        cases h1
      have h2 := qOp_put hoj (hfree j oj hoj hji hjun hnot) (fun cs b => hsel i oi cs b hi) (fun cs b => hsel j oj cs b hoj) hy (H.2 j (ready_mono hj hji)).2
      refine qOp_mono (fun a' h3 => ih (listed.setIfInBounds j true) a' (inv.set hj (low inv hr j hj)) (fun k ok hk hki hun hno => ?_) (ready_mono hr (Ne.symm hji)) h3.1 ?_) h2
      · by_cases hjk : j = k
        · subst hjk; exact hfree j ok hk hki hjun hno
        · rw [getD_set_ne true hjk] at hun; exact hfree k ok hk hki hun hno
      · rw [Array.setIfInBounds_comm _ _ hji]
        exact h3.2

theorem headQ_lex {n g : Nat} {K : Act → Prop} (hsel : Region.noSelect ops = true) (hs : Region.sinkB md ops n = true) (hc : Region.chainB md ops n = true) (hn : n < ops.size) :
    ∀ (l : List Oper) (k : Nat) (listed : Array Bool) (a : Act), (∀ j, j < l.length → l[j]? = ops[k + j]?) → k + l.length = n → HeadInv md ops n listed →
    Region.lexHead md ops g l.length k listed = true → wpQuiet P ops C K l a → HeadQ P md ops C n (fun listed' a' => Region.seqB md ops g n listed' = true ∧ K a') l.length listed a
  | [], k, listed, a, _, hk, _, hB, h => by
    obtain rfl : k = n := by simpa using hk
    exact ⟨by simpa [Region.lexHead] using hB, h⟩
  | o :: l, k, listed, a, hl, hk, inv, hB, h => by
    have h0 : ops[k]? = some o := by simpa using (hl 0 (by simp)).symm
    simp only [List.length_cons, Region.lexHead, Bool.and_eq_true] at hB
    obtain ⟨⟨hr, hf⟩, hB'⟩ := hB
    have hkn : k < n := by simp only [List.length_cons] at hk; omega
    have hr' : k ∈ Region.ready md ops listed := by simpa using hr
    have hq : qOp P ops C k (wpQuiet P ops C K l) a := by unfold qOp; simp only [h0]; exact h
    obtain ⟨v, hy, hK⟩ := yieldsIn_of_qOp h0 hq
    exact headQ_first h0 (Region.noSelect_spec hsel) hs hc hn hkn (fun listed' a' hL => seqB_ready hL.1) l.length listed a inv (Region.free_spec h0 hf) hr' hy
      (headQ_lex hsel hs hc hn l (k + 1) _ _ (fun j hj => by have := hl (j + 1) (by simp; omega); simpa [Nat.add_assoc, Nat.add_comm 1 j] using this) (by simp only [List.length_cons] at hk; omega) (inv.set hr' hkn) hB' hK)

/-- The head quiet, then the tail, in every world that is w after some draws. -/
theorem region_tail {id : Nat} {Q : Exit → Act → World → Prop} {a : Act} {w : World} {l : List Oper} (n : Nat) (hm : P.follows .mixedOrders = true) (hB : Region.lexTailB .any l.toArray n = true)
    (h : wpQuiet P l.toArray (fun w' => ∃ m, w' = w.drewN m) (fun a' => ∀ m, wpList P l.toArray Q (l.drop n) a' (w.drewN m)) (l.take n) a) : (Code.region id l.toArray true).wp P Q a w := by
  simp only [Region.lexTailB, Bool.and_eq_true, decide_eq_true_eq] at hB
  obtain ⟨⟨⟨⟨hsel, hn⟩, hs⟩, hc⟩, hlex⟩ := hB
  have hn' : n < l.length := by simpa using hn
  have htl : (l.take n).length = n := by simp; omega
  have hdl : (l.drop n).length = l.toArray.size - n := by simp
  have inv0 : HeadInv .any l.toArray n (Array.replicate l.toArray.size false) :=
    ⟨by simp, fun j oj _ hl => (by rw [getD_replicate_false] at hl; cases hl), fun t _ ht => getD_in (by simpa using ht) (getD_replicate_false _ _)⟩
  have H := headQ_lex (md := .any) (g := l.toArray.size - n) hsel hs hc hn (l.take n) 0 _ a (fun j hj => by
    have hj' : j < n := by rw [htl] at hj; exact hj
    simp [hj']) (by simpa using htl) inv0 (by rw [htl]; exact hlex) h
  refine wp_region_any hm ?_
  have H2 := wpAny_of_headQ (Q' := Q) (g := l.toArray.size - n) (C := fun w' => ∃ m, w' = w.drewN m) (fun listed a' w' hw hL => by
    obtain ⟨m, rfl⟩ := hw
    have := wpAny_of_seq (md := .any) (Q' := Q) (l.drop n) n listed a' (w.drewN m) (fun j => by simp [List.getElem?_drop]) (by rw [hdl]; exact hL.1) (hL.2 m)
    rwa [hdl] at this) _ _ _ { w with drawn := w.drawn + 1 } ⟨1, rfl⟩ H
  have e : n + (l.toArray.size - n) = l.toArray.size := by omega
  rw [htl, e] at H2
  exact H2
end
end Go.Proofs.YtpglhkjgcahdbaaDoor
