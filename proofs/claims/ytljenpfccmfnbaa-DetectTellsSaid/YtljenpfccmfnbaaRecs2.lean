/- Append of a row of structs of whole numbers as one operation of a region that draws. No program in it. -/
import Derived.Test.YtljenpfccmfnbaaRecs
namespace Go.Proofs.Ytljenpfccmfnbaa
open Go.ChangeShapes Go.WideShapes Go.ChangeAt Go.RowKit
section
variable {w w' : World} {A : Option Addr} {zs : List Int} {E : TypeId} {base m n c : Nat}
theorem step_append_recs {P : Program} {ops : Array Oper} {F : Prop} {Q : Exit → Act → World → Prop} {K : Act → World → Prop} {o : Oper} {a : Act} (hgd : o.guard = none) (s x : Operand) (t : TypeId)
    (ho : o.op = .call { callee := .builtin .append, args := #[s, x], argTypes := #[t, t] })
    (i : TypeInfo) (z : Value) (bytes : Nat) (ht : P.underlying t = some (.slice E)) (hi : P.info? E = some i) (hz : i.zero = some z) (hsize : i.size = m) (hby : i.bytes = bytes) (hb8 : bytes ≤ 64) (hzs : z.cells.size = m) (hm : 0 < m)
    (hs : a.eval s = .slice A n c) (hown : OwnR m E base w A n c zs)
    (ad : Addr) (k cc : Nat) (xs : List Int) (hx : a.eval x = .slice (some ad) k cc) (hk : xs.length = k * m) (hcell : Nums .i64 w (some ad) xs) (hlen : n + k < 1099511627776)
    (B : Nat) (W0 : World) (hB : B ≤ base) (hbelow : Below B W0 w)
    (h : ∀ A' c' w', OwnR m E base w' A' (n + k) c' (zs ++ xs) → Below B W0 w' → K (a.put o.dst (.slice A' (n + k) c')) w') : if Region.wanted o (yielded ops a.tmps) = true then Oper.wp P o a w K Q else F := by
  have hw : Region.wanted o (yielded ops a.tmps) = true := by simp [Region.wanted, hgd]
  rw [if_pos hw]
  exact wp_append_recs s x t ho i z bytes ht hi hz hsize hby hb8 hzs hm hs hown ad k cc xs hx hk hcell hlen B W0 hB hbelow h

end
end Go.Proofs.Ytljenpfccmfnbaa
