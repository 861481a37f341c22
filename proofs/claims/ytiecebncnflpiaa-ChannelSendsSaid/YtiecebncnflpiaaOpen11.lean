/- A Send, a note, acts of layer 11 that come in. -/
import Derived.Test.YtiecebncnflpiaaSmall11
import Derived.Test.YtiecebncnflpiaaOpen
import Derived.Test.YtiecebncnflpiaaUnflt
namespace Go.Proofs.Ytiecebncnflpiaa
open Go.ChangeShapes Go.WideShapes Go.ChangeAt Go.RowKit Go.Joins Go.Deep

theorem fl_dec (ys : List Int) (h : ys.length = 7) : ∃ x : Fl, x.enc = ys := by
  match ys, h with
  | [a, b, c, d, e, f, g], _ => exact ⟨⟨a, b, c, d, e, f, g⟩, rfl⟩
def Fl.wf (f : Fl) : Prop := ∀ z ∈ f.enc, -9223372036854775808 ≤ z ∧ z ≤ 9223372036854775807
theorem open_send {H : Type} {enc : TypeId × Value → H} {W : World} {base : Nat} {v : Value} {d : DataW H} {ps : List MemPlace}
    (hv : Value.okWide Try.prog W .any base seT v) (h : DataW.Trod enc Try.prog W 0 (fun _ => true) true seT v d ps) :
    ∃ (n : Int) (A : Option Addr) (k c : Nat) (l : List Fl) (ww cc : Int), v = .agg #[.int .i64 n, .slice A k c, .int .i64 ww, .int .i64 cc] ∧ k ≤ c ∧ c ≤ maxLen ∧ l.length = k ∧ Fls W A l ∧
      (-9223372036854775808 ≤ n ∧ n ≤ 9223372036854775807) ∧ (-9223372036854775808 ≤ ww ∧ ww ≤ 9223372036854775807) ∧ (-9223372036854775808 ≤ cc ∧ cc ≤ 9223372036854775807) ∧ ∀ f ∈ l, f.wf := by
  obtain ⟨v0, v1, v2, v3, y0, y1, y2, y3, q, rfl, -, -, t0, t1, t2, t3⟩ := open_agg4 Try.underlying24 (by kernel_rfl) (by kernel_rfl) hv h
  obtain ⟨n, e0, -, w0⟩ := DataW.trod_int Try.underlying3 t0
  obtain ⟨A, k, c, zs, e1, h1, h2, h3, h4, h5⟩ := open_recs (m := 7) (n := 5) Try.underlying22 (by kernel_rfl) (by kernel_rfl) (by decide) t1
  obtain ⟨ww, e2, -, w2⟩ := DataW.trod_int Try.underlying3 t2
  obtain ⟨cc, e3, -, w3⟩ := DataW.trod_int Try.underlying3 t3
  simp only [List.cons.injEq, and_true] at e0 e2 e3
  subst e0; subst e1; subst e2; subst e3
  obtain ⟨l, hl, rfl⟩ := unflt fl_dec k zs h3
  exact ⟨n, A, k, c, l, ww, cc, rfl, h1, h2, hl, h4, wf64' w0, wf64' w2, wf64' w3, fun f hf z hz => wf64' (h5 z (flt_mem hf hz))⟩
theorem open_note {H : Type} {enc : TypeId × Value → H} {W : World} {base : Nat} {v : Value} {d : DataW H} {ps : List MemPlace}
    (hv : Value.okWide Try.prog W .any base noT v) (h : DataW.Trod enc Try.prog W 0 (fun _ => true) true noT v d ps) :
    ∃ (a b c e : Int), v = noteV a b c e := by
  obtain ⟨v0, v1, v2, v3, y0, y1, y2, y3, q, rfl, -, -, t0, t1, t2, t3⟩ := open_agg4 Try.underlying34 (by kernel_rfl) (by kernel_rfl) hv h
  obtain ⟨n, e0, -, w0⟩ := DataW.trod_int Try.underlying3 t0
  obtain ⟨n1, e1, -, w1⟩ := DataW.trod_int Try.underlying3 t1
  obtain ⟨n2, e2, -, w2⟩ := DataW.trod_int Try.underlying3 t2
  obtain ⟨n3, e3, -, w3⟩ := DataW.trod_int Try.underlying3 t3
  simp only [List.cons.injEq, and_true] at e0 e1 e2 e3
  subst e0; subst e1; subst e2; subst e3
  exact ⟨n, n1, n2, n3, rfl⟩
theorem right_bd {n ww cc : Int} {l : List Fl} (h : Sd.right ⟨n, l, ww, cc⟩ = true) : (1 ≤ n ∧ n ≤ 1073741824) ∧ (1 ≤ ww ∧ ww ≤ 8) ∧ (0 ≤ cc ∧ cc ≤ 7) ∧ l.length ≤ 8 ∧ Sd.chain n (Sd.least ⟨n, l, ww, cc⟩) l = true := by
  unfold Sd.right at h
  simp only [Bool.and_eq_true, decide_eq_true_eq] at h
  exact ⟨h.1, h.2.1, h.2.2.1, h.2.2.2.1, h.2.2.2.2⟩
theorem chain_all (n : Int) : ∀ (l : List Fl) (least : Int), Sd.chain n least l = true → ∀ f ∈ l, least ≤ f.q ∧ f.q ≤ n - 1 ∧ (1 ≤ f.t ∧ f.t ≤ 1073741824) ∧ 0 ≤ f.a ∧ f.a ≤ 1099511627776
  | [], _, _, f, hf => by cases hf
  | g :: r, least, h, f, hf => by
    rw [Sd.chain, Bool.and_eq_true, decide_eq_true_eq] at h
    obtain ⟨h1, h2⟩ := h
    unfold Fl.ok at h1
    rcases List.mem_cons.1 hf with rfl | hf
    · omega
    · have := chain_all n r _ h2 f hf
      omega
theorem right_all {n ww cc : Int} {l : List Fl} (h : Sd.right ⟨n, l, ww, cc⟩ = true) : (∀ f ∈ l, 0 ≤ f.q ∧ f.q ≤ 1099511627776) ∧ (∀ f ∈ l, 0 ≤ f.a ∧ f.a ≤ 1099511627776) ∧ ∀ f ∈ l, 1 ≤ f.q ∧ f.q ≤ n - 1 ∧ (1 ≤ f.t ∧ f.t ≤ 1073741824) := by
  obtain ⟨h1, -, -, -, h5⟩ := right_bd h
  have := chain_all n l _ h5
  have hl : 1 ≤ Sd.least ⟨n, l, ww, cc⟩ := by unfold Sd.least; omega
  exact ⟨fun f hf => by have := this f hf; omega, fun f hf => (this f hf).2.2.2, fun f hf => by have := this f hf; omega⟩
theorem room_mono (n : Int) (l : List Fl) (ww ww' cc cc' : Int) (h : ww ≤ ww') : Sd.room ⟨n, l, ww, cc⟩ ≤ Sd.room ⟨n, l, ww', cc'⟩ := by
  unfold Sd.room
  have : Sd.span ⟨n, l, ww, cc⟩ = Sd.span ⟨n, l, ww', cc'⟩ := rfl
  dsimp only
  omega

/-- Two blocks of four cells as they lie, and nothing below turned. -/
abbrev SV (W0 : World) (ga gb : Nat) (a0 a1 a2 a3 b0 b1 b2 b3 : Value) (W : World) : Prop :=
  (W.cell? ⟨ga, 0, none⟩ = some a0 ∧ W.cell? ⟨ga, 1, none⟩ = some a1 ∧ W.cell? ⟨ga, 2, none⟩ = some a2 ∧ W.cell? ⟨ga, 3, none⟩ = some a3 ∧ W.cell? ⟨gb, 0, none⟩ = some b0 ∧ W.cell? ⟨gb, 1, none⟩ = some b1 ∧ W.cell? ⟨gb, 2, none⟩ = some b2 ∧ W.cell? ⟨gb, 3, none⟩ = some b3) ∧ Below W0.heap.size W0 W
section
variable {W0 W W' : World} {ga gb : Nat} {a0 a1 a2 a3 b0 b1 b2 b3 : Value} {t u : TypeId}
theorem SV.mk (ha : W0.heap[ga]? = some (.cells #[a0, a1, a2, a3] t)) (hb : W0.heap[gb]? = some (.cells #[b0, b1, b2, b3] u)) (h : Below W0.heap.size W0 W) : SV W0 ga gb a0 a1 a2 a3 b0 b1 b2 b3 W := by
  have ka := row_cells (row_kept ha h (row_lt ha))
  have kb := row_cells (row_kept hb h (row_lt hb))
  exact ⟨⟨ka 0, ka 1, ka 2, ka 3, kb 0, kb 1, kb 2, kb 3⟩, h⟩
theorem SV.call (ha : W0.heap[ga]? = some (.cells #[a0, a1, a2, a3] t)) (hb : W0.heap[gb]? = some (.cells #[b0, b1, b2, b3] u)) (h : SV W0 ga gb a0 a1 a2 a3 b0 b1 b2 b3 W) (h2 : Below W.heap.size W W') : SV W0 ga gb a0 a1 a2 a3 b0 b1 b2 b3 W' :=
  SV.mk ha hb (h.2.trans (h2.mono h.2.size))
theorem SV.low (h : SV W0 ga gb a0 a1 a2 a3 b0 b1 b2 b3 W) : Below W0.heap.size W0 W := h.2
end
end Go.Proofs.Ytiecebncnflpiaa
