/- Package send: more of what a walk over acts needs. -/
import Derived.Test.YtiecebncnflpiaaSendUni
namespace Go.Proofs.Ytiecebncnflpiaa.sendUni2
open Go.ChangeShapes Go.WideShapes Go.ChangeAt Go.RowKit Go.Shelf Go.Deep
theorem push_eq {n ww cc : Int} {l : List Fl} {u v x y now : Int} (hr : Sd.right ⟨n, l, ww, cc⟩ = true) (hp : 0 < Sd.room ⟨n, l, ww, cc⟩) :
    Sd.push ⟨n, l, ww, cc⟩ u v x y now = (⟨n + 1, l ++ [⟨n, u, v, x, y, now, 1⟩], ww, cc⟩, ⟨n, u, v, x, y, now, 1⟩, true) ∧ Sd.room ⟨n + 1, l ++ [⟨n, u, v, x, y, now, 1⟩], ww, cc⟩ = Sd.room ⟨n, l, ww, cc⟩ - 1 := by
  refine ⟨by unfold Sd.push; rw [if_neg (by omega)], ?_⟩
  unfold Sd.room at hp ⊢
  dsimp only at hp ⊢
  rw [List.length_append]
  cases l with
  | nil =>
    have e1 : Sd.span ⟨n, [], ww, cc⟩ = 0 := rfl
    have e2 : Sd.span ⟨n + 1, [] ++ [⟨n, u, v, x, y, now, 1⟩], ww, cc⟩ = n + 1 - n := rfl
    rw [e1] at hp ⊢
    rw [e2]
    simp only [List.length_nil, List.length_cons] at hp ⊢
    omega
  | cons f r =>
    have e1 : Sd.span ⟨n, f :: r, ww, cc⟩ = n - f.q := rfl
    have e2 : Sd.span ⟨n + 1, (f :: r) ++ [⟨n, u, v, x, y, now, 1⟩], ww, cc⟩ = n + 1 - f.q := rfl
    rw [e1] at hp ⊢
    rw [e2]
    simp only [List.length_nil, List.length_cons] at hp ⊢
    omega
theorem push_no {n ww cc : Int} {l : List Fl} {u v x y now : Int} (hp : Sd.room ⟨n, l, ww, cc⟩ = 0) : Sd.push ⟨n, l, ww, cc⟩ u v x y now = (⟨n, l, ww, cc⟩, .zero, false) := by
  unfold Sd.push
  rw [if_pos hp]
theorem acked_all {n ww cc : Int} {l : List Fl} (hr : Sd.right ⟨n, l, ww, cc⟩ = true) (now : Int) : ∃ wf cf tk, Sd.acked ⟨n, l, ww, cc⟩ (n - 1) 0 now = (⟨n, [], wf, cf⟩, tk) := by
  obtain ⟨h1, -, -, -, -⟩ := right_bd hr
  have ha := (right_all hr).2.2
  have hF : l.filter (fun x => !Sd.gone (n - 1) 0 x) = [] := by
    rw [List.filter_eq_nil_iff]
    intro x hx
    have := (ha x hx).2.1
    unfold Sd.gone
    rw [decide_eq_true (show x.q ≤ n - 1 from this)]
    simp
  unfold Sd.acked
  dsimp only
  rw [if_neg (by omega), hF]
  exact ⟨_, _, _, rfl⟩
/-- Flights that lie elsewhere than in block g. -/
def FlsN (g : Nat) (w : World) (A : Option Addr) (l : List Fl) : Prop := Fls w A l ∧ (l = [] ∨ ∀ b off, A = some ⟨b, off, none⟩ → b ≠ g)
theorem FlsN.set {g : Nat} {w : World} {A : Option Addr} {l : List Fl} {t : TypeId} {cs : Array Value} (h : FlsN g w A l) : FlsN g (setRow w g t cs) A l := by
  refine ⟨?_, h.2⟩
  rcases h.2 with rfl | h2
  · exact Or.inl rfl
  · exact Fls.setRow h.1 h2

theorem FlsN.kept {g : Nat} {w w' : World} {A : Option Addr} {l : List Fl} (h : FlsN g w A l) (hb : Below w.heap.size w w') : FlsN g w' A l := ⟨h.1.below hb, h.2⟩
theorem FlsN.own {g base n c : Nat} {w : World} {A : Option Addr} {l : List Fl} (h : OwnF base w A n c l) (hg : g < base) : FlsN g w A l := ⟨h.fls, Or.inr fun b off e => by have := (h.block' e).1; simp only at this; omega⟩
/-- An act, as its numbers. -/
theorem acts_at {w : World} {B : Option Addr} {zs : List Int} {m j : Nat} (h : Nums .i64 w B zs) (hz : zs.length = m * 8) (hj : j < m) : ∃ b off, B = some ⟨b, off, none⟩ ∧ b < w.heap.size ∧ ∃ d p q t u v x y : Int,
    w.cell? ⟨b, off + j * 8, none⟩ = some (.int .i64 d) ∧ w.cell? ⟨b, off + j * 8 + 1, none⟩ = some (.int .i64 p) ∧ w.cell? ⟨b, off + j * 8 + 2, none⟩ = some (.int .i64 q) ∧ w.cell? ⟨b, off + j * 8 + 3, none⟩ = some (.int .i64 t) ∧
    w.cell? ⟨b, off + j * 8 + 4, none⟩ = some (.int .i64 u) ∧ w.cell? ⟨b, off + j * 8 + 5, none⟩ = some (.int .i64 v) ∧ w.cell? ⟨b, off + j * 8 + 6, none⟩ = some (.int .i64 x) ∧ w.cell? ⟨b, off + j * 8 + 7, none⟩ = some (.int .i64 y) := by
  rcases h with h | ⟨b, off, hA, hb, hc⟩
  · rw [h] at hz; simp at hz; omega
  · have g : ∀ i, i < 8 → w.cell? ⟨b, off + j * 8 + i, none⟩ = some (.int .i64 (zs.getD (j * 8 + i) 0)) := fun i hi => by
      rw [Nat.add_assoc]; exact hc (j * 8 + i) (by omega)
    exact ⟨b, off, hA, hb, _, _, _, _, _, _, _, _, g 0 (by omega), g 1 (by omega), g 2 (by omega), g 3 (by omega), g 4 (by omega), g 5 (by omega), g 6 (by omega), g 7 (by omega)⟩
abbrev acT : TypeId := 36
abbrev acO (d p q t u v x y : Int) : Obj := .cells #[.int .i64 d, .int .i64 p, .int .i64 q, .int .i64 t, .int .i64 u, .int .i64 v, .int .i64 x, .int .i64 y] acT
theorem open_acts {H : Type} {enc : TypeId × Value → H} {W : World} {base : Nat} {v : Value} {d : DataW H} {ps : List MemPlace}
    (hv : Value.okWide Try.prog W .any base 29 v) (h : DataW.Trod enc Try.prog W 0 (fun _ => true) true 29 v d ps) :
    ∃ (B : Option Addr) (m cap : Nat) (zs : List Int), v = .slice B m cap ∧ m ≤ cap ∧ cap ≤ maxLen ∧ zs.length = m * 8 ∧ Nums .i64 W B zs := by
  obtain ⟨a0, len, cap, rfl⟩ := okWide_slice Try.underlying29 hv
  obtain ⟨fuel, hf⟩ := h
  obtain ⟨B, m, c, zs, e, h1, h2, h3, h4, -⟩ := open_recs (m := 8) (n := 5) Try.underlying29 (by kernel_rfl) (by kernel_rfl) (by decide) (by simpa [Value.cells] using hf)
  exact ⟨B, m, c, zs, e, h1, h2, h3, h4⟩
end Go.Proofs.Ytiecebncnflpiaa.sendUni2
