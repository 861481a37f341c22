/- What the laws of layer 5 share. -/
import Derived.Test.YtnfdfnkhjlkdhaaPkOpen
import Derived.Test.YtnfdfnkhjlkdhaaWireMath2
namespace Go.Proofs.Ytnfdfnkhjlkdhaa
open Go.ChangeShapes Go.WideShapes Go.ChangeAt Go.RowKit
theorem wpQuiet_pk {α : Type} {f : α → World} {ops : Array Oper} {rest : List Oper} {o : Oper} {a : Act} {Q : Act → Prop} (hgd : Region.wanted o (yielded ops a.tmps) = true) (x : Operand) (ho : o.op = .load pkT x) (g : Nat) (p : Pk) (hp : p.Wf) (hx : a.eval x = .pointer (some ⟨g, 0, none⟩))
    (hw : ∀ m, (f m).heap[g]? = some (.cells (pcs p).toArray pkT)) (h : wpQuiet Try.prog ops (fun w' => ∃ m, w' = f m) Q rest (a.put o.dst (.agg (pcs p).toArray))) : wpQuiet Try.prog ops (fun w' => ∃ m, w' = f m) Q (o :: rest) a :=
  BigFrame.wpQuiet_want hgd fun _ hK => ⟨.agg (pcs p).toArray, fun w' ⟨m, hm⟩ => by
    subst hm
    have hl := run_loadVar_mid (P := Try.prog) (f m) g 0 pkT (pcs p) _ (range_row (hw m)) Try.underlying25 rfl (by rw [info_pk, pcs_len hp])
    unfold Oper.quietAt execOp
    simp only [ho, hx, Instr.loadAt, Instr.sureAddr, Sem.run_bind, Sem.run_pure, Result.andThen_ok, hl]
    exact ⟨rfl, rfl⟩, hK _ h⟩
theorem text_inj {a b : List Int} (ha : ∀ z ∈ a, 0 ≤ z ∧ z ≤ 255) (hb : ∀ z ∈ b, 0 ≤ z ∧ z ≤ 255) (h : strOfNums a = strOfNums b) : a = b := by
  have h1 : (a.map fun n => UInt8.ofNat n.toNat) = b.map fun n => UInt8.ofNat n.toNat := by rw [← strOfNums_data, ← strOfNums_data, h]
  have hl : a.length = b.length := by simpa using congrArg List.length h1
  apply List.ext_getElem hl
  intro i h2 h3
  have h4 := congrArg (·[i]?) h1
  simp only [List.getElem?_map, List.getElem?_eq_getElem h2, List.getElem?_eq_getElem h3, Option.map_some, Option.some.injEq] at h4
  have h5 := congrArg UInt8.toNat h4
  have x1 := ha _ (List.getElem_mem h2)
  have x2 := hb _ (List.getElem_mem h3)
  simp only [UInt8.toNat_ofNat'] at h5
  omega
theorem text_toList {a b : ByteArray} (h : a.toList = b.toList) : a = b := by
  rw [ByteArray.toList_eq, ByteArray.toList_eq] at h
  obtain ⟨⟨x⟩⟩ := a
  obtain ⟨⟨y⟩⟩ := b
  simpa using h
/-- Texts of bytes are equal just if the bytes are. -/
theorem text_beq {a b : List Int} (ha : ∀ z ∈ a, 0 ≤ z ∧ z ≤ 255) (hb : ∀ z ∈ b, 0 ≤ z ∧ z ≤ 255) : ((strOfNums a).toList == (strOfNums b).toList) = decide (a = b) := by
  rw [Bool.eq_iff_iff, beq_iff_eq, decide_eq_true_eq]
  exact ⟨fun h => text_inj ha hb (text_toList h), fun h => by rw [h]⟩
end Go.Proofs.Ytnfdfnkhjlkdhaa
