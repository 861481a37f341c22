/- What a packet of each kind holds; which packets are right; their bytes. No program in it but its numbers of functions. -/
import Derived.Test.YtnfdfnkhjlkdhaaPk
import Derived.Test.YtnfdfnkhjlkdhaaFieldMath2
namespace Go.Proofs.Ytnfdfnkhjlkdhaa
open Go.RowKit
/-- One thing that a packet holds: the place (12: Secret, 13: Tag), in how many bytes, from what to what. -/
structure Pt5 where
  j : Nat
  sz : Int
  lo : Int
  hi : Int
def fnPart (j : Nat) : FuncId :=
  if j = 1 then 60 else if j = 2 then 61 else if j = 3 then 59 else if j = 4 then 64
  else if j = 5 then 63 else if j = 6 then 66 else if j = 7 then 65 else if j = 8 then 67
  else if j = 9 then 68 else if j = 10 then 56 else if j = 11 then 57 else if j = 12 then 58 else 62
/-- Its cells. -/
def Pt5.cs (x : Pt5) : List Value := [if x.j ≤ 11 then .func (.func (fnPart x.j)) #[] #[] else .nilFunc, if x.j ≤ 11 then .nilFunc else .func (.func (fnPart x.j)) #[] #[], .int .i64 x.sz, .int .i64 x.lo, .int .i64 x.hi]
theorem Pt5.cs_len (x : Pt5) : x.cs.length = 5 := rfl
def Pt5.fits (x : Pt5) (p : Pk) : Bool := if x.j ≤ 11 then decide (x.lo ≤ p.h.getD x.j 0) && decide (p.h.getD x.j 0 ≤ x.hi) else true
def Pt5.copy (x : Pt5) (p q : Pk) : Pk := if x.j ≤ 11 then { q with h := q.h.set x.j (p.h.getD x.j 0) } else if x.j = 12 then { q with s := p.s } else { q with t := p.t }
def Pt5.put (x : Pt5) (p : Pk) : List Int := if x.j ≤ 11 then lay (p.h.getD x.j 0) x.sz.toNat else if x.j = 12 then p.s else p.t
structure Pt5.Ok (x : Pt5) : Prop where
  j1 : 1 ≤ x.j
  j2 : x.j ≤ 13
  sz : x.j ≤ 11 → x.sz = 1 ∨ x.sz = 4
def ptSession : Pt5 := ⟨1, 4, 1, 1073741824⟩
def ptSeq : Pt5 := ⟨2, 4, 1, 1073741824⟩
def ptUser (l : Int) : Pt5 := ⟨3, 1, l, 16⟩
def ptOp (l m : Int) : Pt5 := ⟨4, 1, l, m⟩
def ptStatus (l : Int) : Pt5 := ⟨5, 1, l, 3⟩
def ptCount : Pt5 := ⟨6, 1, 0, 4⟩
def ptVersion : Pt5 := ⟨7, 4, 0, 1073741824⟩
def ptAck : Pt5 := ⟨8, 4, 0, 1073741824⟩
def ptSack : Pt5 := ⟨9, 1, 0, 255⟩
def ptNonce : Pt5 := ⟨10, 4, 0, 1073741824⟩
def ptEpoch : Pt5 := ⟨11, 4, 0, 1073741824⟩
def ptSecret : Pt5 := ⟨12, 0, 0, 0⟩
def ptTag : Pt5 := ⟨13, 0, 0, 0⟩
/-- What a packet of a kind holds. -/
def held (k : Int) : List Pt5 :=
  if k = 1 then [ptNonce] else if k = 2 then [ptNonce, ptEpoch, ptSecret] else if k = 3 then [ptUser 1, ptNonce, ptEpoch, ptSecret] else if k = 4 then [ptSession, ptNonce, ptSecret]
  else if k = 5 then [ptSession, ptSeq, ptTag] else if k = 6 then [ptSession, ptSeq, ptStatus 1, ptTag] else if k = 7 then [ptSession, ptSeq, ptOp 1 7, ptUser 1, ptTag]
  else if k = 8 then [ptSession, ptSeq, ptUser 0, ptVersion, ptStatus 0, ptCount, ptTag] else if k = 9 then [ptSession, ptAck, ptSack, ptTag] else if k = 10 then [ptSession, ptSeq, ptTag]
  else if k = 11 then [ptSession, ptSeq, ptOp 0 15, ptTag] else if k = 12 then [ptNonce, ptOp 0 15] else []
theorem held_cases (k : Int) : k = 1 ∨ k = 2 ∨ k = 3 ∨ k = 4 ∨ k = 5 ∨ k = 6 ∨ k = 7 ∨ k = 8 ∨ k = 9 ∨ k = 10 ∨ k = 11 ∨ k = 12 ∨ (k ≠ 1 ∧ k ≠ 2 ∧ k ≠ 3 ∧ k ≠ 4 ∧ k ≠ 5 ∧ k ≠ 6 ∧ k ≠ 7 ∧ k ≠ 8 ∧ k ≠ 9 ∧ k ≠ 10 ∧ k ≠ 11 ∧ k ≠ 12) := by omega
theorem held_none {k : Int} (h : k ≠ 1 ∧ k ≠ 2 ∧ k ≠ 3 ∧ k ≠ 4 ∧ k ≠ 5 ∧ k ≠ 6 ∧ k ≠ 7 ∧ k ≠ 8 ∧ k ≠ 9 ∧ k ≠ 10 ∧ k ≠ 11 ∧ k ≠ 12) : held k = [] := by
  obtain ⟨h1, h2, h3, h4, h5, h6, h7, h8, h9, h10, h11, h12⟩ := h
  simp only [held, h1, h2, h3, h4, h5, h6, h7, h8, h9, h10, h11, h12, if_false]
theorem held_ok (k : Int) : ∀ x ∈ held k, x.Ok := by
  rcases held_cases k with rfl | rfl | rfl | rfl | rfl | rfl | rfl | rfl | rfl | rfl | rfl | rfl | h
  case inr.inr.inr.inr.inr.inr.inr.inr.inr.inr.inr.inr => rw [held_none h]; intro x hx; cases hx
  all_goals
    intro x hx
    simp [held] at hx
    (first | (rcases hx with rfl | rfl | rfl | rfl | rfl | rfl | rfl) | (rcases hx with rfl | rfl | rfl | rfl | rfl) | (rcases hx with rfl | rfl | rfl | rfl) | (rcases hx with rfl | rfl | rfl) | (rcases hx with rfl | rfl) | (subst hx))
    all_goals exact ⟨by decide, by decide, by decide⟩
theorem held_len (k : Int) : (held k).length ≤ 7 := by
  rcases held_cases k with rfl | rfl | rfl | rfl | rfl | rfl | rfl | rfl | rfl | rfl | rfl | rfl | h
  case inr.inr.inr.inr.inr.inr.inr.inr.inr.inr.inr.inr => rw [held_none h]; decide
  all_goals decide
def Pk.kind (p : Pk) : Int := p.h.getD 0 0
def pkBare (k : Int) : Pk := ⟨(List.replicate 12 0).set 0 k, List.replicate 16 0, List.replicate 8 0⟩
theorem pkBare_wf (k : Int) : (pkBare k).Wf := ⟨rfl, rfl, rfl⟩
def Pk.copied (p : Pk) (l : List Pt5) : Pk := l.foldl (fun q x => x.copy p q) (pkBare p.kind)
def Pk.nobody (p : Pk) : Bool := decide (p.kind = 8) && decide (p.h.getD 3 0 = 0) && !(decide (p.h.getD 7 0 = 0) && decide (p.h.getD 5 0 = 0) && decide (p.h.getD 6 0 = 0))
/-- Whether a packet is right. -/
def Pk.right (p : Pk) : Bool := (held p.kind).all (fun x => x.fits p) && (decide (held p.kind ≠ []) && decide (p = p.copied (held p.kind)) && !p.nobody)
/-- Its bytes. -/
def Pk.laid (p : Pk) (l : List Pt5) : List Int := lay p.kind 1 ++ l.flatMap (fun x => x.put p)
def Pk.enc (p : Pk) : List Int := p.laid (held p.kind)
theorem Pt5.copy_wf {x : Pt5} {p q : Pk} (hp : p.Wf) (hq : q.Wf) : (x.copy p q).Wf := by
  unfold Pt5.copy
  split
  · exact ⟨by simpa using hq.h, hq.s, hq.t⟩
  · split
    · exact ⟨hq.h, hp.s, hq.t⟩
    · exact ⟨hq.h, hq.s, hp.t⟩
theorem Pk.copied_snoc (p : Pk) (l : List Pt5) (x : Pt5) : p.copied (l ++ [x]) = x.copy p (p.copied l) := by simp [Pk.copied, List.foldl_append]
theorem Pk.copied_wf {p : Pk} (hp : p.Wf) (l : List Pt5) : (p.copied l).Wf := by
  unfold Pk.copied
  have : ∀ (l : List Pt5) (q : Pk), q.Wf → (l.foldl (fun q x => x.copy p q) q).Wf := fun l => by
    induction l with
    | nil => intro q hq; exact hq
    | cons x r ih => intro q hq; exact ih _ (Pt5.copy_wf hp hq)
  exact this l _ (pkBare_wf _)
theorem Pk.laid_snoc (p : Pk) (l : List Pt5) (x : Pt5) : p.laid (l ++ [x]) = p.laid l ++ x.put p := by simp [Pk.laid, List.append_assoc]
theorem Pt5.put_len {x : Pt5} {p : Pk} (hx : x.Ok) (hp : p.Wf) : (x.put p).length ≤ 16 := by
  unfold Pt5.put
  split
  · rename_i h
    rw [lay_len]
    rcases hx.sz h with h | h <;> rw [h] <;> decide
  · split
    · rw [hp.s]; exact Nat.le_refl _
    · rw [hp.t]; decide
theorem Pk.laid_len {p : Pk} (hp : p.Wf) : ∀ l : List Pt5, (∀ x ∈ l, x.Ok) → (p.laid l).length ≤ 1 + 16 * l.length := by
  intro l
  unfold Pk.laid
  rw [List.length_append, lay_len]
  intro h
  have : ∀ l : List Pt5, (∀ x ∈ l, x.Ok) → (l.flatMap (fun x => x.put p)).length ≤ 16 * l.length := by
    intro l
    induction l with
    | nil => intro _; simp
    | cons x r ih =>
      intro h
      rw [List.flatMap_cons, List.length_append, List.length_cons]
      have h1 := Pt5.put_len (h x (List.mem_cons_self ..)) hp
      have h2 := ih (fun y hy => h y (List.mem_cons_of_mem _ hy))
      omega
  have := this l h
  omega
/-- The slice of parts that 'held' hands back. -/
def PtsAt (w : World) (A : Option Addr) (l : List Pt5) : Prop := l = [] ∨ ∃ g t, A = some ⟨g, 0, none⟩ ∧ w.heap[g]? = some (.cells (l.flatMap Pt5.cs).toArray t)
theorem PtsAt.below {w w' : World} {A : Option Addr} {l : List Pt5} (h : PtsAt w A l) (hb : Below w.heap.size w w') : PtsAt w' A l := by
  rcases h with h | ⟨g, t, h1, h2⟩
  · exact Or.inl h
  · exact Or.inr ⟨g, t, h1, row_kept h2 hb (row_lt h2)⟩
theorem flat5_at : ∀ (l : List Pt5) (i : Nat) (x : Pt5), l[i]? = some x → ∀ (j : Nat), j < 5 → (l.flatMap Pt5.cs)[i * 5 + j]? = x.cs[j]?
  | [], i, x, h, _, _ => by cases h
  | y :: r, 0, x, h, j, hj => by
    simp at h
    subst h
    rw [List.flatMap_cons, List.getElem?_append_left (by rw [Pt5.cs_len]; omega)]
    simp
  | y :: r, i + 1, x, h, j, hj => by
    rw [List.flatMap_cons, List.getElem?_append_right (by rw [Pt5.cs_len]; omega), Pt5.cs_len]
    have := flat5_at r i x (by simpa using h) j hj
    rw [show (i + 1) * 5 + j - 5 = i * 5 + j by omega]
    exact this
theorem range5 {W : World} {g : Nat} {l : List Pt5} {t : TypeId} (h : W.heap[g]? = some (.cells (l.flatMap Pt5.cs).toArray t)) {i : Nat} {x : Pt5} (hx : l[i]? = some x) : W.rangeAt g (i * 5) x.cs := fun j v hv => by
  have hj : j < 5 := by
    have := (List.getElem?_eq_some_iff.1 hv).1
    rwa [Pt5.cs_len] at this
  rw [cell_of_row _ _ _ _ _ _ h, List.getElem?_toArray, flat5_at l i x hx j hj]
  exact hv
theorem Pt5.cs_one (x : Pt5) : ∀ v ∈ x.cs, v.oneCell' = true := by
  intro v hv
  simp only [Pt5.cs, List.mem_cons, List.not_mem_nil, or_false] at hv
  rcases hv with rfl | rfl | rfl | rfl | rfl
  · split <;> rfl
  · split <;> rfl
  · rfl
  · rfl
  · rfl
end Go.Proofs.Ytnfdfnkhjlkdhaa
