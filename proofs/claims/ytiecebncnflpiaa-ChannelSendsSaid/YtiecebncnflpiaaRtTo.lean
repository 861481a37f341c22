/- Package rtt: what comes of a call, by its result. -/
import Derived.Test.YtiecebncnflpiaaRtS
namespace Go.Proofs.Ytiecebncnflpiaa.rt
open Go.ChangeShapes Go.WideShapes Go.ChangeAt Go.RowKit
theorem sample_to {s v rto f : Int} {has : Bool} {r : Int} {s' v' rto' f' : Int} {has' : Bool} (h : Rtt.sample ⟨s, v, rto, f, has⟩ r = ⟨s', v', rto', f', has'⟩) (w : World) :
    Calls Try.prog 39 #[.agg #[.int .i64 s, .int .i64 v, .int .i64 rto, .int .i64 f, .bool has], .int .i64 r] w fun e w' => e = .returned (.agg #[.int .i64 s', .int .i64 v', .int .i64 rto', .int .i64 f', .bool has']) ∧ Below w.heap.size w w' := by
  have := sample_any s v rto f has r w
  rw [h] at this
  exact this
theorem backoff_to {s v rto f : Int} {has : Bool} {s' v' rto' f' : Int} {has' : Bool} (h : Rtt.backoff ⟨s, v, rto, f, has⟩ = ⟨s', v', rto', f', has'⟩) (w : World) :
    Calls Try.prog 44 #[.agg #[.int .i64 s, .int .i64 v, .int .i64 rto, .int .i64 f, .bool has]] w fun e w' => e = .returned (.agg #[.int .i64 s', .int .i64 v', .int .i64 rto', .int .i64 f', .bool has']) ∧ Below w.heap.size w w' := by
  have := backoff_any s v rto f has w
  rw [h] at this
  exact this
end Go.Proofs.Ytiecebncnflpiaa.rt
