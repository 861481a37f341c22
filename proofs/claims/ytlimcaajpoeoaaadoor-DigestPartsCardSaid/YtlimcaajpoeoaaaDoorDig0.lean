import Derived.Test.YtlimcaajpoeoaaaDoorRows
import Derived.Test.YtlimcaajpoeoaaaDoorShaMath
import Derived.Test.YtlimcaajpoeoaaaDoorMem2
import Derived.WalkKit
import Derived.ProofKit
import Derived.OpenShut
import Derived.Outline
import Derived.Lib.Hide
import Derived.Deep.QuietTactic
import Derived.BigQuiet
namespace Go.Proofs.YtlimcaajpoeoaaaDoor
open Go.ChangeShapes Go.WideShapes Go.ChangeAt Go.RowKit
theorem ret_u32 {a b : Int} (h : a = b) : Ending.returned (.int .u32 a) = .returned (.int .u32 b) := by rw [h]
theorem rot2 (x : Sha.W) (w : World) :
    Calls Tryd.prog 19 #[.int .u32 (Sha.u x), .int .i64 (-2)] w fun e w' => e = .returned (.int .u32 (Sha.u (Sha.rr x 2))) ∧ w = w' := by
  have h0 := Sha.u_lo x
  have h1 := Sha.u_hi x
  have e : bits .and .u64 (IntKind.u64.wrap (-2)) 31 = 30 := by decide
  go_enter Tryd.func19, Tryd.ntmps19
  go_wp2
  go_ret
  exact ⟨ret_u32 (Sha.rot_u x 2 30 1073741824 4 (by decide) (by decide) (by decide)), rfl⟩
theorem right2 (x : Sha.W) (w : World) :
    Calls Tryd.prog 15 #[.int .u32 (Sha.u x), .int .i64 2] w fun e w' => e = .returned (.int .u32 (Sha.u (Sha.rr x 2))) ∧ w = w' := by
  have h0 := Sha.u_lo x
  have h1 := Sha.u_hi x
  go_enter Tryd.func15, Tryd.ntmps15
  go_wp2_with (go_at_call 19; refine (rot2 _ _).mono ?_; rintro e w' ⟨rfl, rfl⟩)
  go_ret
  exact ⟨rfl, rfl⟩
theorem rot6 (x : Sha.W) (w : World) :
    Calls Tryd.prog 19 #[.int .u32 (Sha.u x), .int .i64 (-6)] w fun e w' => e = .returned (.int .u32 (Sha.u (Sha.rr x 6))) ∧ w = w' := by
  have h0 := Sha.u_lo x
  have h1 := Sha.u_hi x
  have e : bits .and .u64 (IntKind.u64.wrap (-6)) 31 = 26 := by decide
  go_enter Tryd.func19, Tryd.ntmps19
  go_wp2
  go_ret
  exact ⟨ret_u32 (Sha.rot_u x 6 26 67108864 64 (by decide) (by decide) (by decide)), rfl⟩
theorem right6 (x : Sha.W) (w : World) :
    Calls Tryd.prog 15 #[.int .u32 (Sha.u x), .int .i64 6] w fun e w' => e = .returned (.int .u32 (Sha.u (Sha.rr x 6))) ∧ w = w' := by
  have h0 := Sha.u_lo x
  have h1 := Sha.u_hi x
  go_enter Tryd.func15, Tryd.ntmps15
  go_wp2_with (go_at_call 19; refine (rot6 _ _).mono ?_; rintro e w' ⟨rfl, rfl⟩)
  go_ret
  exact ⟨rfl, rfl⟩
theorem rot7 (x : Sha.W) (w : World) :
    Calls Tryd.prog 19 #[.int .u32 (Sha.u x), .int .i64 (-7)] w fun e w' => e = .returned (.int .u32 (Sha.u (Sha.rr x 7))) ∧ w = w' := by
  have h0 := Sha.u_lo x
  have h1 := Sha.u_hi x
  have e : bits .and .u64 (IntKind.u64.wrap (-7)) 31 = 25 := by decide
  go_enter Tryd.func19, Tryd.ntmps19
  go_wp2
  go_ret
  exact ⟨ret_u32 (Sha.rot_u x 7 25 33554432 128 (by decide) (by decide) (by decide)), rfl⟩
theorem right7 (x : Sha.W) (w : World) :
    Calls Tryd.prog 15 #[.int .u32 (Sha.u x), .int .i64 7] w fun e w' => e = .returned (.int .u32 (Sha.u (Sha.rr x 7))) ∧ w = w' := by
  have h0 := Sha.u_lo x
  have h1 := Sha.u_hi x
  go_enter Tryd.func15, Tryd.ntmps15
  go_wp2_with (go_at_call 19; refine (rot7 _ _).mono ?_; rintro e w' ⟨rfl, rfl⟩)
  go_ret
  exact ⟨rfl, rfl⟩
theorem rot11 (x : Sha.W) (w : World) :
    Calls Tryd.prog 19 #[.int .u32 (Sha.u x), .int .i64 (-11)] w fun e w' => e = .returned (.int .u32 (Sha.u (Sha.rr x 11))) ∧ w = w' := by
  have h0 := Sha.u_lo x
  have h1 := Sha.u_hi x
  have e : bits .and .u64 (IntKind.u64.wrap (-11)) 31 = 21 := by decide
  go_enter Tryd.func19, Tryd.ntmps19
  go_wp2
  go_ret
  exact ⟨ret_u32 (Sha.rot_u x 11 21 2097152 2048 (by decide) (by decide) (by decide)), rfl⟩
theorem right11 (x : Sha.W) (w : World) :
    Calls Tryd.prog 15 #[.int .u32 (Sha.u x), .int .i64 11] w fun e w' => e = .returned (.int .u32 (Sha.u (Sha.rr x 11))) ∧ w = w' := by
  have h0 := Sha.u_lo x
  have h1 := Sha.u_hi x
  go_enter Tryd.func15, Tryd.ntmps15
  go_wp2_with (go_at_call 19; refine (rot11 _ _).mono ?_; rintro e w' ⟨rfl, rfl⟩)
  go_ret
  exact ⟨rfl, rfl⟩
theorem rot13 (x : Sha.W) (w : World) :
    Calls Tryd.prog 19 #[.int .u32 (Sha.u x), .int .i64 (-13)] w fun e w' => e = .returned (.int .u32 (Sha.u (Sha.rr x 13))) ∧ w = w' := by
  have h0 := Sha.u_lo x
  have h1 := Sha.u_hi x
  have e : bits .and .u64 (IntKind.u64.wrap (-13)) 31 = 19 := by decide
  go_enter Tryd.func19, Tryd.ntmps19
  go_wp2
  go_ret
  exact ⟨ret_u32 (Sha.rot_u x 13 19 524288 8192 (by decide) (by decide) (by decide)), rfl⟩
theorem right13 (x : Sha.W) (w : World) :
    Calls Tryd.prog 15 #[.int .u32 (Sha.u x), .int .i64 13] w fun e w' => e = .returned (.int .u32 (Sha.u (Sha.rr x 13))) ∧ w = w' := by
  have h0 := Sha.u_lo x
  have h1 := Sha.u_hi x
  go_enter Tryd.func15, Tryd.ntmps15
  go_wp2_with (go_at_call 19; refine (rot13 _ _).mono ?_; rintro e w' ⟨rfl, rfl⟩)
  go_ret
  exact ⟨rfl, rfl⟩
theorem rot17 (x : Sha.W) (w : World) :
    Calls Tryd.prog 19 #[.int .u32 (Sha.u x), .int .i64 (-17)] w fun e w' => e = .returned (.int .u32 (Sha.u (Sha.rr x 17))) ∧ w = w' := by
  have h0 := Sha.u_lo x
  have h1 := Sha.u_hi x
  have e : bits .and .u64 (IntKind.u64.wrap (-17)) 31 = 15 := by decide
  go_enter Tryd.func19, Tryd.ntmps19
  go_wp2
  go_ret
  exact ⟨ret_u32 (Sha.rot_u x 17 15 32768 131072 (by decide) (by decide) (by decide)), rfl⟩
theorem right17 (x : Sha.W) (w : World) :
    Calls Tryd.prog 15 #[.int .u32 (Sha.u x), .int .i64 17] w fun e w' => e = .returned (.int .u32 (Sha.u (Sha.rr x 17))) ∧ w = w' := by
  have h0 := Sha.u_lo x
  have h1 := Sha.u_hi x
  go_enter Tryd.func15, Tryd.ntmps15
  go_wp2_with (go_at_call 19; refine (rot17 _ _).mono ?_; rintro e w' ⟨rfl, rfl⟩)
  go_ret
  exact ⟨rfl, rfl⟩
theorem rot18 (x : Sha.W) (w : World) :
    Calls Tryd.prog 19 #[.int .u32 (Sha.u x), .int .i64 (-18)] w fun e w' => e = .returned (.int .u32 (Sha.u (Sha.rr x 18))) ∧ w = w' := by
  have h0 := Sha.u_lo x
  have h1 := Sha.u_hi x
  have e : bits .and .u64 (IntKind.u64.wrap (-18)) 31 = 14 := by decide
  go_enter Tryd.func19, Tryd.ntmps19
  go_wp2
  go_ret
  exact ⟨ret_u32 (Sha.rot_u x 18 14 16384 262144 (by decide) (by decide) (by decide)), rfl⟩
theorem right18 (x : Sha.W) (w : World) :
    Calls Tryd.prog 15 #[.int .u32 (Sha.u x), .int .i64 18] w fun e w' => e = .returned (.int .u32 (Sha.u (Sha.rr x 18))) ∧ w = w' := by
  have h0 := Sha.u_lo x
  have h1 := Sha.u_hi x
  go_enter Tryd.func15, Tryd.ntmps15
  go_wp2_with (go_at_call 19; refine (rot18 _ _).mono ?_; rintro e w' ⟨rfl, rfl⟩)
  go_ret
  exact ⟨rfl, rfl⟩
theorem rot19 (x : Sha.W) (w : World) :
    Calls Tryd.prog 19 #[.int .u32 (Sha.u x), .int .i64 (-19)] w fun e w' => e = .returned (.int .u32 (Sha.u (Sha.rr x 19))) ∧ w = w' := by
  have h0 := Sha.u_lo x
  have h1 := Sha.u_hi x
  have e : bits .and .u64 (IntKind.u64.wrap (-19)) 31 = 13 := by decide
  go_enter Tryd.func19, Tryd.ntmps19
  go_wp2
  go_ret
  exact ⟨ret_u32 (Sha.rot_u x 19 13 8192 524288 (by decide) (by decide) (by decide)), rfl⟩
theorem right19 (x : Sha.W) (w : World) :
    Calls Tryd.prog 15 #[.int .u32 (Sha.u x), .int .i64 19] w fun e w' => e = .returned (.int .u32 (Sha.u (Sha.rr x 19))) ∧ w = w' := by
  have h0 := Sha.u_lo x
  have h1 := Sha.u_hi x
  go_enter Tryd.func15, Tryd.ntmps15
  go_wp2_with (go_at_call 19; refine (rot19 _ _).mono ?_; rintro e w' ⟨rfl, rfl⟩)
  go_ret
  exact ⟨rfl, rfl⟩
theorem rot22 (x : Sha.W) (w : World) :
    Calls Tryd.prog 19 #[.int .u32 (Sha.u x), .int .i64 (-22)] w fun e w' => e = .returned (.int .u32 (Sha.u (Sha.rr x 22))) ∧ w = w' := by
  have h0 := Sha.u_lo x
  have h1 := Sha.u_hi x
  have e : bits .and .u64 (IntKind.u64.wrap (-22)) 31 = 10 := by decide
  go_enter Tryd.func19, Tryd.ntmps19
  go_wp2
  go_ret
  exact ⟨ret_u32 (Sha.rot_u x 22 10 1024 4194304 (by decide) (by decide) (by decide)), rfl⟩
theorem right22 (x : Sha.W) (w : World) :
    Calls Tryd.prog 15 #[.int .u32 (Sha.u x), .int .i64 22] w fun e w' => e = .returned (.int .u32 (Sha.u (Sha.rr x 22))) ∧ w = w' := by
  have h0 := Sha.u_lo x
  have h1 := Sha.u_hi x
  go_enter Tryd.func15, Tryd.ntmps15
  go_wp2_with (go_at_call 19; refine (rot22 _ _).mono ?_; rintro e w' ⟨rfl, rfl⟩)
  go_ret
  exact ⟨rfl, rfl⟩
theorem rot25 (x : Sha.W) (w : World) :
    Calls Tryd.prog 19 #[.int .u32 (Sha.u x), .int .i64 (-25)] w fun e w' => e = .returned (.int .u32 (Sha.u (Sha.rr x 25))) ∧ w = w' := by
  have h0 := Sha.u_lo x
  have h1 := Sha.u_hi x
  have e : bits .and .u64 (IntKind.u64.wrap (-25)) 31 = 7 := by decide
  go_enter Tryd.func19, Tryd.ntmps19
  go_wp2
  go_ret
  exact ⟨ret_u32 (Sha.rot_u x 25 7 128 33554432 (by decide) (by decide) (by decide)), rfl⟩
theorem right25 (x : Sha.W) (w : World) :
    Calls Tryd.prog 15 #[.int .u32 (Sha.u x), .int .i64 25] w fun e w' => e = .returned (.int .u32 (Sha.u (Sha.rr x 25))) ∧ w = w' := by
  have h0 := Sha.u_lo x
  have h1 := Sha.u_hi x
  go_enter Tryd.func15, Tryd.ntmps15
  go_wp2_with (go_at_call 19; refine (rot25 _ _).mono ?_; rintro e w' ⟨rfl, rfl⟩)
  go_ret
  exact ⟨rfl, rfl⟩
theorem turn2 (x : Sha.W) (w : World) :
    Calls Tryd.prog 18 #[.int .u32 (Sha.u x), .int .i64 2] w fun e w' => e = .returned (.int .u32 (Sha.u (Sha.rr x 2))) ∧ ∃ m, w' = w.drewN m := by
  have h0 := Sha.u_lo x
  have h1 := Sha.u_hi x
  go_enter Tryd.func18, Tryd.ntmps18
  go_wp2
  go_quiet (fail)
  go_wp2
  go_ret
  exact ⟨ret_u32 (Sha.rot_u' x 2 30 1073741824 4 (by decide) (by decide) (by decide)), _, rfl⟩
theorem turn6 (x : Sha.W) (w : World) :
    Calls Tryd.prog 18 #[.int .u32 (Sha.u x), .int .i64 6] w fun e w' => e = .returned (.int .u32 (Sha.u (Sha.rr x 6))) ∧ ∃ m, w' = w.drewN m := by
  have h0 := Sha.u_lo x
  have h1 := Sha.u_hi x
  go_enter Tryd.func18, Tryd.ntmps18
  go_wp2
  go_quiet (fail)
  go_wp2
  go_ret
  exact ⟨ret_u32 (Sha.rot_u' x 6 26 67108864 64 (by decide) (by decide) (by decide)), _, rfl⟩
theorem turn7 (x : Sha.W) (w : World) :
    Calls Tryd.prog 18 #[.int .u32 (Sha.u x), .int .i64 7] w fun e w' => e = .returned (.int .u32 (Sha.u (Sha.rr x 7))) ∧ ∃ m, w' = w.drewN m := by
  have h0 := Sha.u_lo x
  have h1 := Sha.u_hi x
  go_enter Tryd.func18, Tryd.ntmps18
  go_wp2
  go_quiet (fail)
  go_wp2
  go_ret
  exact ⟨ret_u32 (Sha.rot_u' x 7 25 33554432 128 (by decide) (by decide) (by decide)), _, rfl⟩
theorem turn11 (x : Sha.W) (w : World) :
    Calls Tryd.prog 18 #[.int .u32 (Sha.u x), .int .i64 11] w fun e w' => e = .returned (.int .u32 (Sha.u (Sha.rr x 11))) ∧ ∃ m, w' = w.drewN m := by
  have h0 := Sha.u_lo x
  have h1 := Sha.u_hi x
  go_enter Tryd.func18, Tryd.ntmps18
  go_wp2
  go_quiet (fail)
  go_wp2
  go_ret
  exact ⟨ret_u32 (Sha.rot_u' x 11 21 2097152 2048 (by decide) (by decide) (by decide)), _, rfl⟩
theorem turn13 (x : Sha.W) (w : World) :
    Calls Tryd.prog 18 #[.int .u32 (Sha.u x), .int .i64 13] w fun e w' => e = .returned (.int .u32 (Sha.u (Sha.rr x 13))) ∧ ∃ m, w' = w.drewN m := by
  have h0 := Sha.u_lo x
  have h1 := Sha.u_hi x
  go_enter Tryd.func18, Tryd.ntmps18
  go_wp2
  go_quiet (fail)
  go_wp2
  go_ret
  exact ⟨ret_u32 (Sha.rot_u' x 13 19 524288 8192 (by decide) (by decide) (by decide)), _, rfl⟩
theorem turn17 (x : Sha.W) (w : World) :
    Calls Tryd.prog 18 #[.int .u32 (Sha.u x), .int .i64 17] w fun e w' => e = .returned (.int .u32 (Sha.u (Sha.rr x 17))) ∧ ∃ m, w' = w.drewN m := by
  have h0 := Sha.u_lo x
  have h1 := Sha.u_hi x
  go_enter Tryd.func18, Tryd.ntmps18
  go_wp2
  go_quiet (fail)
  go_wp2
  go_ret
  exact ⟨ret_u32 (Sha.rot_u' x 17 15 32768 131072 (by decide) (by decide) (by decide)), _, rfl⟩
theorem turn18 (x : Sha.W) (w : World) :
    Calls Tryd.prog 18 #[.int .u32 (Sha.u x), .int .i64 18] w fun e w' => e = .returned (.int .u32 (Sha.u (Sha.rr x 18))) ∧ ∃ m, w' = w.drewN m := by
  have h0 := Sha.u_lo x
  have h1 := Sha.u_hi x
  go_enter Tryd.func18, Tryd.ntmps18
  go_wp2
  go_quiet (fail)
  go_wp2
  go_ret
  exact ⟨ret_u32 (Sha.rot_u' x 18 14 16384 262144 (by decide) (by decide) (by decide)), _, rfl⟩
theorem turn19 (x : Sha.W) (w : World) :
    Calls Tryd.prog 18 #[.int .u32 (Sha.u x), .int .i64 19] w fun e w' => e = .returned (.int .u32 (Sha.u (Sha.rr x 19))) ∧ ∃ m, w' = w.drewN m := by
  have h0 := Sha.u_lo x
  have h1 := Sha.u_hi x
  go_enter Tryd.func18, Tryd.ntmps18
  go_wp2
  go_quiet (fail)
  go_wp2
  go_ret
  exact ⟨ret_u32 (Sha.rot_u' x 19 13 8192 524288 (by decide) (by decide) (by decide)), _, rfl⟩
theorem turn22 (x : Sha.W) (w : World) :
    Calls Tryd.prog 18 #[.int .u32 (Sha.u x), .int .i64 22] w fun e w' => e = .returned (.int .u32 (Sha.u (Sha.rr x 22))) ∧ ∃ m, w' = w.drewN m := by
  have h0 := Sha.u_lo x
  have h1 := Sha.u_hi x
  go_enter Tryd.func18, Tryd.ntmps18
  go_wp2
  go_quiet (fail)
  go_wp2
  go_ret
  exact ⟨ret_u32 (Sha.rot_u' x 22 10 1024 4194304 (by decide) (by decide) (by decide)), _, rfl⟩
theorem turn25 (x : Sha.W) (w : World) :
    Calls Tryd.prog 18 #[.int .u32 (Sha.u x), .int .i64 25] w fun e w' => e = .returned (.int .u32 (Sha.u (Sha.rr x 25))) ∧ ∃ m, w' = w.drewN m := by
  have h0 := Sha.u_lo x
  have h1 := Sha.u_hi x
  go_enter Tryd.func18, Tryd.ntmps18
  go_wp2
  go_quiet (fail)
  go_wp2
  go_ret
  exact ⟨ret_u32 (Sha.rot_u' x 25 7 128 33554432 (by decide) (by decide) (by decide)), _, rfl⟩
/-- The numbers by which words are turned. -/
def Rot (m : Int) : Bool := m ∈ [2, 6, 7, 11, 13, 17, 18, 19, 22, 25]
theorem rot_cases {m : Int} (h : Rot m = true) : m = 2 ∨ m = 6 ∨ m = 7 ∨ m = 11 ∨ m = 13 ∨ m = 17 ∨ m = 18 ∨ m = 19 ∨ m = 22 ∨ m = 25 := by simpa [Rot] using h
theorem right_any (x : Sha.W) (m : Int) (hm : Rot m = true) (w : World) :
    Calls Tryd.prog 15 #[.int .u32 (Sha.u x), .int .i64 m] w fun e w' => e = .returned (.int .u32 (Sha.u (Sha.rr x m.toNat))) ∧ w = w' := by
  rcases rot_cases hm with rfl | rfl | rfl | rfl | rfl | rfl | rfl | rfl | rfl | rfl
  · exact right2 x w
  · exact right6 x w
  · exact right7 x w
  · exact right11 x w
  · exact right13 x w
  · exact right17 x w
  · exact right18 x w
  · exact right19 x w
  · exact right22 x w
  · exact right25 x w
theorem turn_any (x : Sha.W) (m : Int) (hm : Rot m = true) (w : World) :
    Calls Tryd.prog 18 #[.int .u32 (Sha.u x), .int .i64 m] w fun e w' => e = .returned (.int .u32 (Sha.u (Sha.rr x m.toNat))) ∧ ∃ m, w' = w.drewN m := by
  rcases rot_cases hm with rfl | rfl | rfl | rfl | rfl | rfl | rfl | rfl | rfl | rfl
  · exact turn2 x w
  · exact turn6 x w
  · exact turn7 x w
  · exact turn11 x w
  · exact turn13 x w
  · exact turn17 x w
  · exact turn18 x w
  · exact turn19 x w
  · exact turn22 x w
  · exact turn25 x w
end Go.Proofs.YtlimcaajpoeoaaaDoor
