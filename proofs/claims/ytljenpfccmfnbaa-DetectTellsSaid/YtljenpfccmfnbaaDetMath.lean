/- Rows of heartbeats, in plain reckoning: no program in it. -/
import Derived.Test.YtljenpfccmfnbaaSatMath
import Derived.Test.YtljenpfccmfnbaaFlat
namespace Go.Proofs.Ytljenpfccmfnbaa
namespace Det
abbrev Row := List (Int × Int)
def last (l : Row) : Int × Int := l.getD (l.length - 1) (0, 0)
def rightFrom : Int → Int → Row → Bool
  | _, _, [] => true
  | s, t, p :: r => if p.1 < s ∨ 1073741824 < p.1 ∨ p.2 < t ∨ 1099511627776 < p.2 then false else rightFrom (p.1 + 1) p.2 r
def right (l : Row) : Bool := if l.length < 1 ∨ 8 < l.length then false else rightFrom 0 0 l
def may (l : Row) (seq now : Int) : Bool := !decide (seq ≤ (last l).1 ∨ 1073741824 < seq ∨ now < (last l).2 ∨ 1099511627776 < now)
def push (l : Row) (seq now : Int) : Row := (if 8 ≤ l.length then l.drop 1 else l) ++ [(seq, now)]
def beat (l : Row) (seq now : Int) : Row := if may l seq now then push l seq now else l
def awaited (l : Row) : List Int := l.map fun p => Sat.add p.2 (Sat.mul 4 (Sat.sub (last l).1 p.1))
def deadline (l : Row) : Int := min (max (Sat.sum [Sat.mean (awaited l), 4, 6]) (Sat.add (last l).2 1)) (Sat.add (last l).2 40)
end Det
end Go.Proofs.Ytljenpfccmfnbaa
