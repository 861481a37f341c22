/- What is read is what was laid: plain reckoning. No program in it. -/
import Derived.Test.YtnfdfnkhjlkdhaaWireMath2
namespace Go.Proofs.Ytnfdfnkhjlkdhaa
theorem lay_be : ∀ (n : Nat) (xs : List Int), xs.length = n → (∀ x ∈ xs, 0 ≤ x ∧ x ≤ 255) → lay (be xs) n = xs
  | 0, xs, h, _ => by
    obtain rfl := List.eq_nil_of_length_eq_zero h
    rfl
  | n + 1, xs, h, hx => by
    have h0 : xs ≠ [] := fun h' => by rw [h'] at h; cases h
    obtain ⟨ys, z, rfl⟩ : ∃ ys z, xs = ys ++ [z] := ⟨_, _, (List.dropLast_concat_getLast h0).symm⟩
    have hl : ys.length = n := by simpa using h
    have ih := lay_be n ys hl (fun x hm => hx x (by simp [hm]))
    obtain ⟨h3, h4⟩ := hx z (by simp)
    rw [be_snoc, lay_succ, show (256 * be ys + z) / 256 = be ys by omega, ih]
    congr 1
    simp [byt]; omega
/-- What a packet has at a place. -/
def Pk.fld (q : Pk) (j : Nat) : Int × List Int := if j ≤ 11 then (q.h.getD j 0, []) else if j = 12 then (0, q.s) else (0, q.t)
theorem put_fld {x : Pt5} {p q : Pk} (h : p.fld x.j = q.fld x.j) : x.put p = x.put q := by
  unfold Pk.fld at h
  unfold Pt5.put
  split
  · rename_i hj
    rw [if_pos hj, if_pos hj] at h
    rw [(Prod.mk.inj h).1]
  · rename_i hj
    rw [if_neg hj, if_neg hj] at h
    split
    · rename_i h12
      rw [if_pos h12, if_pos h12] at h
      exact (Prod.mk.inj h).2
    · rename_i h12
      rw [if_neg h12, if_neg h12] at h
      exact (Prod.mk.inj h).2
theorem rd_fld {x : Pt5} (hx : x.Ok) {j : Nat} (hj : j ≤ 13) (hne : x.j ≠ j) (rest : List Int) (f : Bool) (q : Pk) : (x.rd rest f q).fld j = q.fld j := by
  have h1 := hx.j2
  unfold Pt5.rd
  split
  · unfold Pk.fld
    split
    · simp [List.getD, List.getElem?_set_ne hne]
    · rfl
  · split
    · rfl
    · split
      · unfold Pk.fld
        split
        · rfl
        · rw [if_neg (by omega), if_neg (by omega)]
      · unfold Pk.fld
        split
        · rfl
        · split
          · rfl
          · omega
theorem go_fld {j : Nat} (hj : j ≤ 13) : ∀ (l : List Pt5) (d : Dst), (∀ x ∈ l, x.Ok) → (∀ x ∈ l, x.j ≠ j) → (d.go l).q.fld j = d.q.fld j
  | [], _, _, _ => rfl
  | x :: r, d, ho, hn => by
    show ((d.step x).go r).q.fld j = _
    rw [go_fld hj r _ (fun y hy => ho y (List.mem_cons_of_mem _ hy)) (fun y hy => hn y (List.mem_cons_of_mem _ hy))]
    exact rd_fld (ho x (List.mem_cons_self ..)) hj (hn x (List.mem_cons_self ..)) _ _ _
theorem nbad_false {rest : List Int} {f : Bool} {k : Nat} (h : nbad rest f (k : Int) = false) : f = false ∧ k ≤ rest.length := by
  simp [nbad] at h
  exact ⟨h.1, h.2⟩
theorem ntake_ok {rest : List Int} {f : Bool} {k : Nat} (h : nbad rest f (k : Int) = false) : ntake rest f (k : Int) = rest.take k := by simp [ntake, h]
theorem ndrop_ok {rest : List Int} {f : Bool} {k : Nat} (h : nbad rest f (k : Int) = false) : ndrop rest f (k : Int) = rest.drop k := by simp [ndrop, h]
theorem put_rd {x : Pt5} {rest : List Int} {f : Bool} {q : Pk} (hx : x.Ok) (hq : q.Wf) (hb : ∀ z ∈ rest, 0 ≤ z ∧ z ≤ 255) (h : nbad rest f (x.am : Int) = false) : x.put (x.rd rest f q) = rest.take x.am := by
  obtain ⟨rfl, hk⟩ := nbad_false h
  unfold Pt5.rd
  rw [ntake_ok h, h]
  unfold Pt5.put
  split
  · rename_i hj
    have e : ({ q with h := q.h.set x.j (be (rest.take x.am)) } : Pk).h.getD x.j 0 = be (rest.take x.am) := by
      have := hq.h
      simp [List.getD, List.getElem?_set_self (show x.j < q.h.length by omega)]
    rw [e]
    have ea : x.am = x.sz.toNat := by unfold Pt5.am; rw [if_pos hj]
    rw [← ea]
    exact lay_be _ _ (by rw [List.length_take]; omega) (fun z hz => hb z (List.mem_of_mem_take hz))
  · rename_i hj
    simp only [Bool.false_eq_true, if_false]
    by_cases h12 : x.j = 12
    · have ea : x.am = 16 := by unfold Pt5.am; rw [if_neg hj, if_pos h12]
      simp only [h12, if_true, ea]
    · have ea : x.am = 8 := by unfold Pt5.am; rw [if_neg hj, if_neg h12]
      simp only [h12, if_false, ea]
theorem go_bad {d : Dst} : ∀ (l : List Pt5), (d.go l).bad = false → d.bad = false := fun l => by
  induction l generalizing d with
  | nil => exact id
  | cons x r ih =>
    intro h
    have h1 : (d.step x).bad = false := ih h
    exact (nbad_false h1).1
theorem go_back : ∀ (l : List Pt5) (d : Dst), d.Fine → (∀ x ∈ l, x.Ok) → l.Pairwise (fun x y => y.j ≠ x.j) → (d.go l).bad = false → d.rest = l.flatMap (fun x => x.put (d.go l).q) ++ (d.go l).rest
  | [], d, _, _, _, _ => rfl
  | x :: r, d, hd, ho, hp, hb => by
    have hxo := ho x (List.mem_cons_self ..)
    have hro := fun y hy => ho y (List.mem_cons_of_mem _ hy)
    obtain ⟨hp1, hp2⟩ := List.pairwise_cons.1 hp
    have hb1 : (d.step x).bad = false := go_bad r hb
    have ih := go_back r (d.step x) (hd.step x) hro hp2 hb
    have e1 : (d.go (x :: r)) = (d.step x).go r := rfl
    rw [e1, List.flatMap_cons, List.append_assoc, ← ih]
    have e2 : x.put ((d.step x).go r).q = x.put (d.step x).q := put_fld (go_fld hxo.j2 r _ hro (fun y hy => hp1 y hy))
    have hnb : nbad d.rest d.bad (x.am : Int) = false := hb1
    rw [e2]
    show d.rest = x.put (x.rd d.rest d.bad d.q) ++ ndrop d.rest d.bad (x.am : Int)
    rw [put_rd hxo hd.wf hd.by1 hnb, ndrop_ok hnb, List.take_append_drop]
theorem held_apart (k : Int) : (held k).Pairwise (fun x y => y.j ≠ x.j) := by
  rcases held_cases k with rfl | rfl | rfl | rfl | rfl | rfl | rfl | rfl | rfl | rfl | rfl | rfl | h
  case inr.inr.inr.inr.inr.inr.inr.inr.inr.inr.inr.inr => rw [held_none h]; exact List.Pairwise.nil
  all_goals decide
theorem dec_back {bs : List Int} (hb : ∀ x ∈ bs, 0 ≤ x ∧ x ≤ 255) (hl : bs.length ≤ 1000000) (h : decOk bs = true) : (decPk bs).right = true ∧ (decPk bs).enc = bs ∧ (decPk bs).kind = dKind bs ∧ 0 < bs.length := by
  have e : decPk bs = (dec1 bs).q := by unfold decPk; rw [h]; rfl
  unfold decOk at h
  simp only [Bool.and_eq_true, Bool.not_eq_true', decide_eq_true_eq] at h
  obtain ⟨⟨h1, h2⟩, h3⟩ := h
  have h0 : (dec0 bs).bad = false := go_bad _ h1
  have hn0 : nbad bs false ((1 : Nat) : Int) = false := h0
  have hlen := (nbad_false hn0).2
  have hF := dec0_fine hb hl
  have hg := go_back (held (dKind bs)) (dec0 bs) hF (held_ok _) (held_apart _) h1
  have hk : (dec1 bs).q.kind = dKind bs := by
    have := go_fld (j := 0) (by decide) (held (dKind bs)) (dec0 bs) (held_ok _) (fun x hx => by have := (held_ok _ x hx).j1; omega)
    have e2 : (dec1 bs).q.fld 0 = (pkBare (dKind bs)).fld 0 := this
    exact (Prod.mk.inj e2).1
  refine ⟨by rw [e]; exact h3, ?_, by rw [e]; exact hk, by omega⟩
  have hr0 : (dec1 bs).rest = [] := List.eq_nil_of_length_eq_zero h2
  have hd0 : (dec0 bs).rest = bs.drop 1 := ndrop_ok hn0
  have hk1 : lay (dKind bs) 1 = bs.take 1 := by
    have : dKind bs = be (bs.take 1) := by unfold dKind; rw [show (1 : Int) = ((1 : Nat) : Int) from rfl, ntake_ok hn0]
    rw [this]
    exact lay_be 1 _ (by rw [List.length_take]; omega) (fun z hz => hb z (List.mem_of_mem_take hz))
  rw [e]
  unfold Pk.enc Pk.laid
  rw [hk, hk1]
  have hg2 : bs.drop 1 = (held (dKind bs)).flatMap (fun x => x.put (dec1 bs).q) ++ (dec1 bs).rest := by rw [← hd0]; exact hg
  rw [hr0, List.append_nil] at hg2
  rw [← hg2, List.take_append_drop]
theorem dec_len {bs : List Int} (hb : ∀ x ∈ bs, 0 ≤ x ∧ x ≤ 255) (hl : bs.length ≤ 1000000) (h : decOk bs = true) : bs.length = ksize (dKind bs) ∧ 0 < bs.length := by
  obtain ⟨-, h2, h3, h4⟩ := dec_back hb hl h
  refine ⟨?_, h4⟩
  rw [← h3, ← enc_len (decPk_wf hb hl), h2]
theorem dKind_app {a b : List Int} (h : 0 < a.length) : dKind (a ++ b) = dKind a := by
  have n1 : nbad (a ++ b) false ((1 : Nat) : Int) = false := by simp [nbad]; omega
  have n2 : nbad a false ((1 : Nat) : Int) = false := by simp [nbad]; omega
  unfold dKind
  rw [show (1 : Int) = ((1 : Nat) : Int) from rfl, ntake_ok n1, ntake_ok n2, List.take_append_of_le_length (by omega)]
/-- Neither a beginning of a packet's bytes is one's, nor they with more behind. -/
theorem dec_apart {a b : List Int} (hb : ∀ x ∈ a ++ b, 0 ≤ x ∧ x ≤ 255) (hl : (a ++ b).length ≤ 1000000) (hne : b ≠ []) (h1 : decOk a = true) (h2 : decOk (a ++ b) = true) : False := by
  have ha : ∀ x ∈ a, 0 ≤ x ∧ x ≤ 255 := fun x hx => hb x (List.mem_append_left _ hx)
  have hbl : 0 < b.length := List.length_pos_iff.2 hne
  rw [List.length_append] at hl
  obtain ⟨l1, p1⟩ := dec_len ha (by omega) h1
  obtain ⟨l2, -⟩ := dec_len hb (by rw [List.length_append]; omega) h2
  rw [dKind_app p1, ← l1, List.length_append] at l2
  omega
end Go.Proofs.Ytnfdfnkhjlkdhaa
