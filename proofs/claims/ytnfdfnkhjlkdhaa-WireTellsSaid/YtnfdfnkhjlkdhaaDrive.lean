/- A region that draws its order, driven by hand: each operation that reads is taken first, under a condition S on the world that holds at each step; what is left comes up alone. No program in it. -/
import Derived.Deep.RegionHeld3
namespace Go.Proofs.Ytnfdfnkhjlkdhaa
open Go
section
variable {P : Program} {l : List Oper} {Q : Exit → Act → World → Prop} {S : World → Prop}
theorem hd_start {id : Nat} {a : Act} {w : World} (S : World → Prop) (hm : P.follows .mixedOrders = true) (hS : S w.drew)
    (h : S w.drew → wpAnyH P .any l.toArray Q S l.length (Array.replicate l.length false) a w.drew) : (Code.region id l.toArray true).wp P Q a w :=
  wp_region_held_drew (S := S) hm hS (by simpa using h)
theorem hd_take (i : Nat) {oi : Oper} {v : Value} {f : Nat} {ls : Array Bool} {a : Act} {w : World} (hi : l[i]? = some oi)
    (hs : Region.noSelect l.toArray = true) (hf : Region.free .any l.toArray ls i = true) (hr : (Region.ready .any l.toArray ls).contains i = true)
    (hQ : ∀ c a w, Q (.panic c) (a.put oi.dst v) w → Q (.panic c) a w) (hS : S w) (hy : YieldsIf P l.toArray S oi v a)
    (h : wpAnyH P .any l.toArray Q S f (ls.setIfInBounds i true) (a.put oi.dst v) w) : wpAnyH P .any l.toArray Q S (f + 1) ls a w :=
  wpAnyH_take (i := i) (by simpa using hi) hs hf hr hQ hy hS h
/-- A row that is loaded whole. -/
theorem hd_row {oi : Oper} {a : Act} {T : TypeId} {d : TypeDesc} {n : Nat} (hu : P.underlying T = some d) (hd : d.isRow = true) (hi : (P.info? T).map (·.size) = some n) (hw : Region.wanted oi (yielded l.toArray a.tmps) = true) (x : Operand) (ho : oi.op = .load T x)
    (g o : Nat) (hx : a.eval x = .pointer (some ⟨g, o, none⟩)) (cs : List Value) (hc : cs.length = n) (hS : ∀ w, S w → w.rangeAt g o cs) : YieldsIf P l.toArray S oi (.agg cs.toArray) a :=
  yieldsIf_load_mid hw T x ho g o hx cs d hS hu hd (by rw [hi, hc])
/-- What comes up alone. -/
theorem hd_one (i : Nat) {oi : Oper} {f : Nat} {ls : Array Bool} {a : Act} {w : World} (hi : l[i]? = some oi) (hr : Region.ready .any l.toArray ls = [i])
    (h : ∀ K' : Act → World → Prop, Shut (∀ a w, S w → (S w → wpAnyH P .any l.toArray Q S f (ls.setIfInBounds i true) a w) → K' a w) → if Region.wanted oi (yielded l.toArray a.tmps) = true then Oper.wp P oi a w K' Q else K' (a.put oi.dst undef) w) :
    wpAnyH P .any l.toArray Q S (f + 1) ls a w :=
  wpAnyH_ready hr (by simp) (AllReadyH.cons (by simpa using hi) h AllReadyH.nil)
end
end Go.Proofs.Ytnfdfnkhjlkdhaa
