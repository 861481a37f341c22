/- Flights, and what package send reckons, in plain words. -/
import Derived.Test.YtiecebncnflpiaaSeq
namespace Go.Proofs.Ytiecebncnflpiaa
structure Fl where
  q : Int
  u : Int
  v : Int
  s : Int
  c : Int
  a : Int
  t : Int
deriving DecidableEq
namespace Fl
def enc (f : Fl) : List Int := [f.q, f.u, f.v, f.s, f.c, f.a, f.t]
theorem enc_len (f : Fl) : f.enc.length = 7 := rfl
def zero : Fl := ⟨0, 0, 0, 0, 0, 0, 0⟩
def ok (n : Int) (f : Fl) (least : Int) : Prop := least ≤ f.q ∧ f.q ≤ n - 1 ∧ 1 ≤ f.t ∧ f.t ≤ 1073741824 ∧ 0 ≤ f.a ∧ f.a ≤ 1099511627776
end Fl
abbrev flf (L : List Fl) : List Int := flt Fl.enc L
theorem flf_len (L : List Fl) : (flf L).length = L.length * 7 := flt_len Fl.enc_len L
/-- A Send: its next number, its flights, its window, what was acknowledged since that rose. -/
structure Sd where
  n : Int
  l : List Fl
  w : Int
  c : Int
deriving DecidableEq
instance (n : Int) (f : Fl) (least : Int) : Decidable (f.ok n least) := inferInstanceAs (Decidable (_ ∧ _))
namespace Sd
def chain (n : Int) : Int → List Fl → Bool
  | _, [] => true
  | least, f :: r => decide (f.ok n least) && chain n (f.q + 1) r
def least (s : Sd) : Int := max 1 (s.n - 8)
def right (s : Sd) : Bool := decide (1 ≤ s.n ∧ s.n ≤ 1073741824) && (decide (1 ≤ s.w ∧ s.w ≤ 8) && (decide (0 ≤ s.c ∧ s.c ≤ 7) && (decide (s.l.length ≤ 8) && chain s.n s.least s.l)))
theorem chain_drop (n least : Int) (l : List Fl) (k : Nat) (h : k < l.length) : chain n least (l.drop k) = (decide ((l.getD k .zero).ok n least) && chain n ((l.getD k .zero).q + 1) (l.drop (k + 1))) := by
  rw [List.drop_eq_getElem_cons h, chain]
  simp [List.getD, h]
/-- How many more may be pushed. -/
def span (s : Sd) : Int := match s.l with
  | [] => 0
  | f :: _ => s.n - f.q
def room (s : Sd) : Int := max 0 (min (min (s.w - s.l.length) (8 - s.span)) (1073741824 - s.n))
def due (l : List Fl) (now rto : Int) : List Int := (l.filter fun f => decide (f.a + rto ≤ now)).map Fl.q
theorem due_snoc (l : List Fl) (now rto : Int) (k : Nat) (h : k < l.length) : due (l.take (k + 1)) now rto = due (l.take k) now rto ++ (if (l.getD k .zero).a + rto ≤ now then [(l.getD k .zero).q] else []) := by
  unfold due
  rw [List.take_succ_eq_append_getElem h, List.filter_append, List.map_append]
  congr 1
  have e : l.getD k .zero = l[k] := by simp [List.getD, h]
  rw [e]
  by_cases hh : l[k].a + rto ≤ now
  · simp [hh]
  · simp [hh]
theorem due_len (l : List Fl) (now rto : Int) : (due l now rto).length ≤ l.length := by
  unfold due
  rw [List.length_map]
  exact List.length_filter_le _ _
end Sd
end Go.Proofs.Ytiecebncnflpiaa
