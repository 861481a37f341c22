/- Cookies: the document's own. -/
import Derived.Test.YthppbklbamakcaaDoorCookie2
import Derived.Test.YthppbklbamakcaaDoorPutRef
import Derived.Test.YthppbklbamakcaaDoorMacRef2
import Derived.Test.YthppbklbamakcaaDoorMem8b
namespace Go.Proofs.YthppbklbamakcaaDoor
open Go.ChangeShapes Go.WideShapes Go.ChangeAt Go.RowKit
theorem OwnN.up {w w' : World} {base : Nat} {A : Option Addr} {c : Nat} {l : List Int} {k : IntKind} {E : TypeId} (h : OwnN k E base w A c l) (hb : Below w.heap.size w w') : OwnN k E base w' A c l := by
  refine ⟨⟨h.1.1, ?_⟩, Nat.le_trans h.2 hb.size⟩
  rcases h.1.2 with h1 | ⟨b, cap, cur, hv, hbb, hh, r⟩
  · exact Or.inl h1
  · exact Or.inr ⟨b, cap, cur, hv, hbb, row_kept hh hb (row_lt hh), r⟩
/-- An append of bytes leaves the new array as it is: it lies in another block. -/
theorem RZ.grown {B g base : Nat} {w w' : World} {A : Option Addr} {c : Nat} {l : List Int} (hz : RZ B w g) (hO : OwnN .u8 5 base w A c l) (hg : w.grownBy w' (A.map (·.block))) : RZ B w' g := by
  refine ⟨?_, hz.le⟩
  rw [hg.block g (row_lt hz.row) ?_]
  · exact hz.row
  · intro he
    cases A with
    | none => cases he
    | some a =>
      rcases hO.1.2 with ⟨h1, _⟩ | ⟨b, cap, cur, hv, _, hh, _⟩
      · cases h1
      · injection hv with hA
        injection hA with hA
        subst hA
        injection he with he
        simp at he
        subst he
        have := hz.row.symm.trans hh
        injection this with this
        injection this with _ h2
        cases h2
theorem rnum_any (w : World) (x : Int) (wx : -9223372036854775808 ≤ x ∧ x ≤ 9223372036854775807) :
    Calls Tryd.prog 16 #[.int .i64 x] w fun e w' => ∃ A' c', e = .returned (.slice A' 7 c') ∧ OwnN .u8 5 w.heap.size w' A' c' (lay x 7) ∧ Below w.heap.size w w' := by
  go_enter Tryd.func16, Tryd.ntmps16
  go_wp2_with fail
  refine (ref04.put_any w none 0 0 [] rfl Nums.nil (by decide) x 7 wx 7 rfl).mono ?_
  rintro e w' ⟨A', c', rfl, hO, hB⟩
  have HO := Lib.hid hO
  clear hO
  rw [show (0 + 7 : Nat) = 7 from rfl]
  go_wp2
  go_ret
  exact ⟨A', c', rfl, HO.out, hB⟩
end Go.Proofs.YthppbklbamakcaaDoor
