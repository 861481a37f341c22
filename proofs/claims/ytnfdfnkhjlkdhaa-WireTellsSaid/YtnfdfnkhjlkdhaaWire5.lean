/- Which packets are right. -/
import Derived.Test.YtnfdfnkhjlkdhaaWire4
namespace Go.Proofs.Ytnfdfnkhjlkdhaa
open Go.ChangeShapes Go.WideShapes Go.ChangeAt Go.RowKit
theorem bld_pk (W : World) (k : Int) : (Instr.build pkT #[(0, .int .i64 k)]).run Try.prog W = .ok (.agg (pcs (pkBare k)).toArray) W := by kernel_rfl
theorem pk_new {r : Pk} (hr : r.Wf) (W : World) : (storeCells ⟨W.heap.size, 0, none⟩ (pcs r) 0).run Try.prog (W.alloc (.cells (pcs pk0).toArray pkT)) = .ok () (W.alloc (.cells (pcs r).toArray pkT)) := by
  have := run_storeCells_new (P := Try.prog) W pkT (pcs pk0).toArray (pcs r).toArray (by rw [info_pk]; simp [pcs_len hr]) (by simp [pcs_len hr, pcs_len pk0_wf]) (all_one (pcs_one _))
  simpa using this
theorem pt_new (x : Pt5) (W : World) : (storeCells ⟨W.heap.size, 0, none⟩ x.cs 0).run Try.prog (W.alloc (.cells ptZ.toArray ptT)) = .ok () (W.alloc (.cells x.cs.toArray ptT)) := by
  have := run_storeCells_new (P := Try.prog) W ptT ptZ.toArray x.cs.toArray (by rw [info_pt]; simp [Pt5.cs_len]) (by simp [Pt5.cs_len]) (all_one (Pt5.cs_one _))
  simpa using this
set_option maxHeartbeats 2000000 in
theorem nobody_any (p : Pk) (hp : p.Wf) (w : World) : Calls Try.prog 36 #[.agg (pcs p).toArray] w fun e w' => e = .returned (.bool p.nobody) ∧ Below w.heap.size w w' := by
  have R := row_new (W := w) (cs := (pcs p).toArray) (t := pkT) (m := (0, 0))
  have B : Below w.heap.size w (w.alloc (.cells (pcs p).toArray pkT)) := (Below.refl _ _).alloc (Nat.le_refl _) _
  have c0 := pk_cell R hp 0 (by decide)
  have c3 := pk_cell R hp 3 (by decide)
  have c5 := pk_cell R hp 5 (by decide)
  have c6 := pk_cell R hp 6 (by decide)
  have c7 := pk_cell R hp 7 (by decide)
  have hE : p.nobody = ((p.h.getD 0 0 == 8) && (p.h.getD 3 0 == 0) && !((p.h.getD 7 0 == 0) && (p.h.getD 5 0 == 0) && (p.h.getD 6 0 == 0))) := by
    unfold Pk.nobody Pk.kind
    rw [Bool.eq_iff_iff]
    simp
  rw [hE]
  clear hE
  generalize p.h.getD 0 0 = v0 at c0 ⊢
  generalize p.h.getD 3 0 = v3 at c3 ⊢
  generalize p.h.getD 5 0 = v5 at c5 ⊢
  generalize p.h.getD 6 0 = v6 at c6 ⊢
  generalize p.h.getD 7 0 = v7 at c7 ⊢
  obtain ⟨b0, h0⟩ : ∃ b, (v0 == 8) = b := ⟨_, rfl⟩
  obtain ⟨b3, h3⟩ : ∃ b, (v3 == 0) = b := ⟨_, rfl⟩
  obtain ⟨b5, h5⟩ : ∃ b, (v5 == 0) = b := ⟨_, rfl⟩
  obtain ⟨b6, h6⟩ : ∃ b, (v6 == 0) = b := ⟨_, rfl⟩
  obtain ⟨b7, h7⟩ : ∃ b, (v7 == 0) = b := ⟨_, rfl⟩
  rw [h0, h3, h5, h6, h7]
  have hcase : (b7 = false) ∨ (b7 = true ∧ b5 = false) ∨ (b7 = true ∧ b5 = true ∧ b6 = false) ∨ (b7 = true ∧ b5 = true ∧ b6 = true) := by cases b7 <;> cases b5 <;> cases b6 <;> simp
  have hcase2 : (b0 = false) ∨ (b0 = true ∧ b3 = false) ∨ (b0 = true ∧ b3 = true) := by cases b0 <;> cases b3 <;> simp
  rcases hcase with rfl | ⟨rfl, rfl⟩ | ⟨rfl, rfl, rfl⟩ | ⟨rfl, rfl, rfl⟩ <;> rcases hcase2 with rfl | ⟨rfl, rfl⟩ | ⟨rfl, rfl⟩
  all_goals
    go_enter Try.func36, Try.ntmps36
    go_wp2
    go_ret
    exact ⟨ret_bool (by simp), B⟩
end Go.Proofs.Ytnfdfnkhjlkdhaa
