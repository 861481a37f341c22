/- Rows of structs of whole numbers: a part written anew, cut shorter; the first place. No program in it. -/
import Derived.Test.YtiecebncnflpiaaRecs
namespace Go.Proofs.Ytiecebncnflpiaa
open Go.ChangeShapes Go.WideShapes Go.ChangeAt Go.RowKit
section
variable {w w' : World} {A : Option Addr} {zs : List Int} {E : TypeId} {base m n c g : Nat}
theorem OwnR.row {A : Option Addr} (h : OwnR m E base w A n c zs) (hA : A = some ⟨g, 0, none⟩) (hn : 0 < n) : ∃ cur, base ≤ g ∧ w.heap[g]? = some (.cells cur E) ∧ cur.size = c * m ∧ cur.toList.take (n * m) = zs.map (Value.int .i64) := by
  obtain ⟨g', cur, h1, h2, h3, h4, h5⟩ := h.at0 hn
  rw [hA] at h1
  injection h1 with h1
  injection h1 with h1
  subst h1
  exact ⟨cur, h2, h3, h4, h5⟩
theorem OwnR.lay {cur : Array Value} (h : OwnR m E base w (some ⟨g, 0, none⟩) n c zs) (hg : base ≤ g) (hh : w.heap[g]? = some (.cells cur E)) (hs : cur.size = c * m) (ht : cur.toList.take (n * m) = zs.map (Value.int .i64)) (o : Nat) (xs : List Int) (ho : o + xs.length ≤ n * m) :
    OwnR m E base (setRow w g E (Lib.lay cur o (xs.map (Value.int .i64)))) (some ⟨g, 0, none⟩) n c (zs.take o ++ xs ++ zs.drop (o + xs.length)) := by
  have hz := h.zlen
  have hle : n * m ≤ c * m := Nat.mul_le_mul_right _ h.len.1
  have el : (zs.take o ++ xs ++ zs.drop (o + xs.length)).length = n * m := by simp; omega
  refine OwnR.of_row hg (setRow_row (row_lt hh)) h.len.1 h.len.2 (by rw [Lib.lay_size, hs]) ?_ el
  apply List.ext_getElem?
  intro t
  rw [List.getElem?_take]
  by_cases h1 : t < n * m
  · have key : (zs.take o ++ xs ++ zs.drop (o + xs.length))[t]? = if o ≤ t ∧ t < o + xs.length then xs[t - o]? else zs[t]? := by
      by_cases h2 : t < o
      · rw [if_neg (by omega), List.append_assoc, List.getElem?_append_left (by rw [List.length_take]; omega), List.getElem?_take, if_pos h2]
      · by_cases h3 : t < o + xs.length
        · rw [if_pos ⟨by omega, h3⟩, List.append_assoc, List.getElem?_append_right (by rw [List.length_take]; omega), List.length_take, show min o zs.length = o by omega, List.getElem?_append_left (by omega)]
        · rw [if_neg (by omega), List.getElem?_append_right (by rw [List.length_append, List.length_take]; omega), List.getElem?_drop, List.length_append, List.length_take, show min o zs.length = o by omega, show o + xs.length + (t - (o + xs.length)) = t by omega]
    have hc : cur[t]? = (zs.map (Value.int .i64))[t]? := by rw [← ht, List.getElem?_take, if_pos h1, Array.getElem?_toList]
    rw [if_pos h1, Array.getElem?_toList, Lib.lay_get? _ _ _ _ (by rw [hs, List.length_map]; omega), List.length_map, hc, List.getElem?_map, List.getElem?_map, List.getElem?_map, key]
    split <;> rfl
  · rw [if_neg h1, List.getElem?_eq_none (by rw [List.length_map, el]; omega)]
theorem OwnR.cut {i : Nat} (h : OwnR m E base w (some ⟨g, 0, none⟩) n c zs) (hn : 0 < n) (hi : i ≤ n) : OwnR m E base w (some ⟨g, 0, none⟩) i c (zs.take (i * m)) := by
  obtain ⟨cur, h1, h2, h3, h4⟩ := h.row rfl hn
  have hle : i * m ≤ n * m := Nat.mul_le_mul_right _ hi
  refine OwnR.of_row h1 h2 (by have := h.len.1; omega) h.len.2 h3 ?_ (by rw [List.length_take, h.zlen]; omega)
  rw [List.map_take, ← h4, List.take_take, show min (i * m) (n * m) = i * m by omega]
end
/-- The first place at which p holds; -1, if there is none. -/
def idx {α : Type} (p : α → Bool) (l : List α) : Int := if l.findIdx p < l.length then (l.findIdx p : Int) else -1
theorem idx_hit {α : Type} (p : α → Bool) (l : List α) (d : α) (k : Nat) (hk : k < l.length) (h : p (l.getD k d) = true) (ha : ∀ j, j < k → p (l.getD j d) = false) : idx p l = k := by
  have e : l.findIdx p = k := (List.findIdx_eq hk).2 ⟨by simpa [List.getD, hk] using h, fun j hj => by
    have := ha j hj
    have hjl : j < l.length := by omega
    simpa [List.getD, hjl] using this⟩
  unfold idx
  rw [e, if_pos hk]
theorem idx_miss {α : Type} (p : α → Bool) (l : List α) (d : α) (ha : ∀ j, j < l.length → p (l.getD j d) = false) : idx p l = -1 := by
  have e : l.findIdx p = l.length := List.findIdx_eq_length.2 fun x hx => by
    obtain ⟨j, hj, rfl⟩ := List.getElem_of_mem hx
    have := ha j hj
    simpa [List.getD, hj] using this
  unfold idx
  rw [e, if_neg (by omega)]
theorem idx_spec {α : Type} (p : α → Bool) (l : List α) (d : α) : (idx p l = -1 ∧ ∀ j, j < l.length → p (l.getD j d) = false) ∨ ∃ k, k < l.length ∧ idx p l = k ∧ p (l.getD k d) = true ∧ ∀ j, j < k → p (l.getD j d) = false := by
  by_cases h : l.findIdx p < l.length
  · right
    have := (List.findIdx_eq h).1 rfl
    refine ⟨l.findIdx p, h, by unfold idx; rw [if_pos h], by simpa [List.getD, h] using this.1, fun j hj => ?_⟩
    have h2 := this.2 j hj
    have hjl : j < l.length := by omega
    simpa [List.getD, hjl] using h2
  · left
    refine ⟨by unfold idx; rw [if_neg h], fun j hj => ?_⟩
    have e : l.findIdx p = l.length := by have := List.findIdx_le_length (p := p) (xs := l); omega
    have := List.findIdx_eq_length.1 e (l[j]) (List.getElem_mem hj)
    simpa [List.getD, hj] using this
theorem filter_take {α : Type} (p : α → Bool) (l : List α) (d : α) (j : Nat) (hj : j < l.length) : (l.take (j + 1)).filter p = (l.take j).filter p ++ (if p (l.getD j d) = true then [l.getD j d] else []) := by
  have e : l.getD j d = l[j] := by simp [List.getD, hj]
  rw [List.take_succ_eq_append_getElem hj, List.filter_append, e]
  congr 1
  by_cases h : p l[j] = true
  · simp [h]
  · simp [h]
theorem filter_none {α : Type} (p : α → Bool) (l : List α) (d : α) (k : Nat) (hk : k ≤ l.length) (h : ∀ j, j < k → p (l.getD j d) = true) : (l.take k).filter p = l.take k := by
  apply List.filter_eq_self.2
  intro x hx
  obtain ⟨j, hj, rfl⟩ := List.getElem_of_mem hx
  rw [List.length_take] at hj
  have := h j (by omega)
  have hjl : j < l.length := by omega
  simpa [List.getD, hjl] using this
end Go.Proofs.Ytiecebncnflpiaa
