/- A region that draws its order, whose operations read, and whose callees hand back one value and may make memory, as long as the world stays in a class: the class is the range of a function, so that the library's step of the lexical walk serves. No program in it. -/
import Derived.Deep.QuietTactic
import Derived.Below
import Derived.BigQuiet
namespace Go.Proofs.Ytnfdfnkhjlkdhaa
open Go Go.RowKit
theorem region_class {P : Program} {α : Type} (f : α → World) {id : Nat} {Q : Exit → Act → World → Prop} {a : Act} {w : World} {l : List Oper} (a0 : α) (h0 : { w with drawn := w.drawn + 1 } = f a0) (hm : P.follows .mixedOrders = true) (hB : Region.lexB .any l.toArray = true)
    (h : wpQuiet P l.toArray (fun w' => ∃ n, w' = f n) (fun a' => ∀ w', (∃ n, w' = f n) → Q .normal a' w') l a) : (Code.region id l.toArray true).wp P Q a w :=
  wp_region_quiet (C := fun w' => ∃ n, w' = f n) hm hB ⟨a0, h0⟩ (by simpa using h)
/-- The worlds above one in which below B nothing has turned. -/
structure Over (B : Nat) (w : World) where
  val : World
  below : Below B w val
instance {B : Nat} {w : World} : Nonempty (Over B w) := ⟨⟨w, Below.refl B w⟩⟩
theorem over_left {P : Program} {g : FuncId} {args : Array Value} {B : Nat} {w : World} {u : Over B w} {v : Value} (hB : B ≤ w.heap.size)
    (h : Calls P g args u.val fun e w' => e = .returned v ∧ Below u.val.heap.size u.val w') : Calls P g args u.val fun e w'' => e = .returned v ∧ ∃ n : Over B w, w'' = n.val :=
  h.mono fun _ w' ⟨he, hb⟩ => ⟨he, ⟨w', u.below.trans (hb.mono (Nat.le_trans hB u.below.size))⟩, rfl⟩
end Go.Proofs.Ytnfdfnkhjlkdhaa
