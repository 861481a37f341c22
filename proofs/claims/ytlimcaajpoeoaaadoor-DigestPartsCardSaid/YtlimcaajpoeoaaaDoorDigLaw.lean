/- What a law of layer 2 begins with: the constants in memory, parts that come in. -/
import Derived.Test.YtlimcaajpoeoaaaDoorDigTo
import Derived.Test.YtlimcaajpoeoaaaDoorLawLaid
import Derived.Test.YtlimcaajpoeoaaaDoorMat
import Derived.Test.YtlimcaajpoeoaaaDoorMem6
import Derived.Test.YtlimcaajpoeoaaaDoorTie
import Derived.Test.YtlimcaajpoeoaaaDoorCards
import Derived.SevenTiedAt
import Derived.LaidMore
import Derived.Stop.Joined
namespace Go.Proofs.YtlimcaajpoeoaaaDoor
open Go.ChangeShapes Go.WideShapes Go.ChangeAt Go.RowKit
theorem gConst : Tryd.prog.globalNamed "nightjar/digest.constants" = some 0 := by kernel_rfl
theorem tConst : (Tryd.prog.globals[0]?).map (·.type) = some w64T := by kernel_rfl
theorem const_data {H : Type} : (Rows.laid_nightjar_digest_constants (H := H)) = Lib.tabData .u32 (Sha.K.map Sha.u) := by kernel_rfl
theorem kt_of_laid {W : World} (h : laidMetH Tryd.prog [("nightjar/digest.constants", Rows.laid_nightjar_digest_constants)] W) : Kt W := by
  rw [MakeChecks.laidMetH_plain _ _ _ (by kernel_rfl)] at h
  obtain ⟨ps, ⟨g0, t0, cs0, f0, p0, q0, hg0, ht0, hv0, hd0, _⟩, _, _⟩ := h
  obtain rfl := Option.some.inj (gConst.symm.trans hg0)
  obtain rfl := Option.some.inj (tConst.symm.trans ht0)
  have k0 := World.var?_cell hg0 hv0
  rw [const_data] at hd0
  have hc := Lib.cells_of_tab Tryd.underlying35 Tryd.underlying32 (by kernel_rfl) (by kernel_rfl) hd0
  have hat : ∀ i : Nat, i < 64 → W.cell? ⟨0, i, none⟩ = some (.int .u32 (Sha.u (Sha.K.getD i 0))) := fun i hi => by
    have hK : i < Sha.K.length := hi
    rw [k0, ← Array.getElem?_toList, hc, List.getElem?_map, List.getElem?_map, List.getElem?_eq_getElem hK]
    simp [List.getD, hK]
  refine ⟨hat, ?_⟩
  rcases Nat.lt_or_ge 0 W.heap.size with hlt | hge
  · exact hlt
  · have h0 := hat 0 (by decide)
    rw [show W.cell? ⟨0, 0, none⟩ = none by simp [World.cell?, Array.getElem?_eq_none hge]] at h0
    cases h0
/-- Parts that come in. -/
def ptsOf (n : Nat) (R : Nat → Option Addr) (C : Nat → Nat) (Z : Nat → List Int) : List Pt := (List.range n).map fun r => ⟨R r, C r, Z r⟩
theorem ptsOf_len (n : Nat) (R : Nat → Option Addr) (C : Nat → Nat) (Z : Nat → List Int) : (ptsOf n R C Z).length = n := by simp [ptsOf]
theorem ptsOf_at {n : Nat} {R : Nat → Option Addr} {C : Nat → Nat} {Z : Nat → List Int} {r : Nat} {p : Pt} (h : (ptsOf n R C Z)[r]? = some p) : r < n ∧ p = ⟨R r, C r, Z r⟩ := by
  have hr : r < n := by
    have := (List.getElem?_eq_some_iff.1 h).1
    simpa [ptsOf] using this
  refine ⟨hr, ?_⟩
  unfold ptsOf at h
  rw [List.getElem?_map, List.getElem?_range hr] at h
  exact (Option.some.inj h).symm
theorem parts_of_mat {w : World} {A : Option Addr} {n : Nat} {R : Nat → Option Addr} {C : Nat → Nat} {Z : Nat → List Int} (h : Mat .u8 w A n R C Z) : Parts w A (ptsOf n R C Z) := by
  rcases h with rfl | ⟨b, off, rfl, hb, hc⟩
  · exact Or.inl rfl
  · refine Or.inr ⟨b, off, rfl, hb, fun r p hp => ?_⟩
    obtain ⟨hr, rfl⟩ := ptsOf_at hp
    obtain ⟨h1, h2, h3, h4, _⟩ := hc r hr
    exact ⟨h1, h2, h3, h4⟩
theorem byte_wf {z : Int} (h : (Lit.int .u8 z).wf = true) : 0 ≤ z ∧ z < 256 := by
  have h0 : IntKind.u8.min = 0 := rfl
  have h1 : IntKind.u8.max = 255 := rfl
  simp [Lit.wf] at h
  omega
theorem flat_wf {ps : List Pt} (h : ∀ p ∈ ps, ∀ z ∈ p.bs, 0 ≤ z ∧ z < 256) : ∀ z ∈ flat ps, 0 ≤ z ∧ z < 256 := by
  induction ps with
  | nil => intro z hz; cases hz
  | cons p r ih =>
    intro z hz
    rw [flat, List.mem_append] at hz
    rcases hz with hz | hz
    · exact h p (List.mem_cons_self ..) z hz
    · exact ih (fun q hq => h q (List.mem_cons_of_mem _ hq)) z hz
theorem mat_wf {w : World} {A : Option Addr} {n : Nat} {R : Nat → Option Addr} {C : Nat → Nat} {Z : Nat → List Int} (h : Mat .u8 w A n R C Z) : ∀ p ∈ ptsOf n R C Z, ∀ z ∈ p.bs, 0 ≤ z ∧ z < 256 := by
  rcases h with rfl | ⟨b, off, rfl, hb, hc⟩
  · intro p hp; cases hp
  · intro p hp z hz
    obtain ⟨r, hr⟩ := List.mem_iff_getElem?.1 hp
    obtain ⟨hr', rfl⟩ := ptsOf_at hr
    exact byte_wf ((hc r hr').2.2.2.2.1 z hz)
end Go.Proofs.YtlimcaajpoeoaaaDoor
