/- What is laid is read as it was: plain reckoning. No program in it. -/
import Derived.Test.YtnfdfnkhjlkdhaaWire9
namespace Go.Proofs.Ytnfdfnkhjlkdhaa
/-- The numbers of this part fit its bytes. -/
def Pt5.In (x : Pt5) : Prop := x.j ≤ 11 → 0 ≤ x.lo ∧ x.hi < 256 ^ x.sz.toNat
theorem held_in (k : Int) : ∀ x ∈ held k, x.In := by
  rcases held_cases k with rfl | rfl | rfl | rfl | rfl | rfl | rfl | rfl | rfl | rfl | rfl | rfl | h
  case inr.inr.inr.inr.inr.inr.inr.inr.inr.inr.inr.inr => rw [held_none h]; intro x hx; cases hx
  all_goals
    intro x hx
    simp [held] at hx
    (first | (rcases hx with rfl | rfl | rfl | rfl | rfl | rfl | rfl) | (rcases hx with rfl | rfl | rfl | rfl | rfl) | (rcases hx with rfl | rfl | rfl | rfl) | (rcases hx with rfl | rfl | rfl) | (rcases hx with rfl | rfl) | (subst hx))
    all_goals (intro _; exact ⟨by decide, by decide⟩)
theorem nbad_app (a r : List Int) (n : Nat) (h : a.length = n) : nbad (a ++ r) false (n : Int) = false := by
  simp [nbad]; omega
theorem ntake_app (a r : List Int) (n : Nat) (h : a.length = n) : ntake (a ++ r) false (n : Int) = a := by
  rw [ntake, nbad_app a r n h]; simp [h.symm]
theorem ndrop_app (a r : List Int) (n : Nat) (h : a.length = n) : ndrop (a ++ r) false (n : Int) = r := by
  rw [ndrop, nbad_app a r n h]; simp [h.symm]
theorem be_lay_in {v : Int} {k : Nat} (h0 : 0 ≤ v) (h1 : v < 256 ^ k) : be (lay v k) = v := by
  rw [be_lay]; exact Int.emod_eq_of_lt h0 h1
theorem Pt5.put_am {x : Pt5} {p : Pk} (hp : p.Wf) : (x.put p).length = x.am := by
  unfold Pt5.put Pt5.am
  split
  · rw [lay_len]
  · split
    · exact hp.s
    · exact hp.t
theorem step_put {x : Pt5} {p : Pk} (hi : x.In) (hp : p.Wf) (hf : x.fits p = true) (rest : List Int) (q : Pk) : (⟨x.put p ++ rest, false, q⟩ : Dst).step x = ⟨rest, false, x.copy p q⟩ := by
  have ha := Pt5.put_am (x := x) hp
  unfold Dst.step
  simp only
  rw [ndrop_app _ _ _ ha, nbad_app _ _ _ ha]
  congr 1
  unfold Pt5.rd Pt5.copy
  rw [ntake_app _ _ _ ha, nbad_app _ _ _ ha]
  split
  · rename_i hj
    have hfit := hf
    unfold Pt5.fits at hfit
    rw [if_pos hj] at hfit
    simp only [Bool.and_eq_true, decide_eq_true_eq] at hfit
    obtain ⟨i0, i1⟩ := hi hj
    have : be (x.put p) = p.h.getD x.j 0 := by
      unfold Pt5.put
      rw [if_pos hj]
      exact be_lay_in (by omega) (by omega)
    rw [this]
  · rename_i hj
    rw [if_neg (by decide)]
    have hput : x.put p = if x.j = 12 then p.s else p.t := by unfold Pt5.put; rw [if_neg hj]
    split
    · rename_i h12
      rw [hput, if_pos h12, List.take_append_of_le_length (by rw [hp.s]; exact Nat.le_refl _), List.take_of_length_le (by rw [hp.s]; exact Nat.le_refl _)]
    · rename_i h12
      rw [hput, if_neg h12, List.take_append_of_le_length (by rw [hp.t]; exact Nat.le_refl _), List.take_of_length_le (by rw [hp.t]; exact Nat.le_refl _)]
theorem go_put {p : Pk} (hp : p.Wf) : ∀ (l : List Pt5) (rest : List Int) (q : Pk), (∀ x ∈ l, x.In) → (∀ x ∈ l, x.fits p = true) → (⟨l.flatMap (fun x => x.put p) ++ rest, false, q⟩ : Dst).go l = ⟨rest, false, l.foldl (fun q x => x.copy p q) q⟩
  | [], rest, q, _, _ => rfl
  | x :: r, rest, q, hi, hf => by
    rw [List.flatMap_cons, List.append_assoc]
    show Dst.go (Dst.step _ x) r = _
    rw [step_put (hi x (List.mem_cons_self ..)) hp (hf x (List.mem_cons_self ..))]
    exact go_put hp r rest _ (fun y hy => hi y (List.mem_cons_of_mem _ hy)) (fun y hy => hf y (List.mem_cons_of_mem _ hy))
theorem right_parts {p : Pk} (h : p.right = true) : (∀ x ∈ held p.kind, x.fits p = true) ∧ held p.kind ≠ [] ∧ p = p.copied (held p.kind) ∧ p.nobody = false := by
  unfold Pk.right at h
  simp only [Bool.and_eq_true, List.all_eq_true, decide_eq_true_eq, Bool.not_eq_true'] at h
  exact ⟨h.1, h.2.1.1, h.2.1.2, h.2.2⟩
theorem right_kind {p : Pk} (h : p.right = true) : 1 ≤ p.kind ∧ p.kind ≤ 12 := by
  obtain ⟨-, h2, -⟩ := right_parts h
  rcases held_cases p.kind with h | h | h | h | h | h | h | h | h | h | h | h | h
  case inr.inr.inr.inr.inr.inr.inr.inr.inr.inr.inr.inr => exact absurd (held_none h) h2
  all_goals omega
theorem lay1 {k : Int} (h0 : 0 ≤ k) (h1 : k < 256) : lay k 1 = [k] := by
  simp [lay, byt]; omega
theorem dKind_enc {p : Pk} (h : p.right = true) : dKind p.enc = p.kind := by
  obtain ⟨h0, h1⟩ := right_kind h
  have e : p.enc = [p.kind] ++ (held p.kind).flatMap (fun x => x.put p) := by
    unfold Pk.enc Pk.laid; rw [lay1 (by omega) (by omega)]
  unfold dKind
  rw [e, show (1 : Int) = ((1 : Nat) : Int) from rfl, ntake_app [p.kind] _ 1 rfl]
  simp [be]
theorem dec1_enc {p : Pk} (hp : p.Wf) (h : p.right = true) : dec1 p.enc = ⟨[], false, p⟩ := by
  obtain ⟨h0, h1⟩ := right_kind h
  obtain ⟨hf, hne, hc, hnb⟩ := right_parts h
  have e : p.enc = [p.kind] ++ (held p.kind).flatMap (fun x => x.put p) := by
    unfold Pk.enc Pk.laid; rw [lay1 (by omega) (by omega)]
  have hd : dec0 p.enc = ⟨(held p.kind).flatMap (fun x => x.put p) ++ [], false, pkBare p.kind⟩ := by
    unfold dec0
    rw [dKind_enc h, e, show (1 : Int) = ((1 : Nat) : Int) from rfl, ndrop_app [p.kind] _ 1 rfl, nbad_app [p.kind] _ 1 rfl, List.append_nil]
  unfold dec1
  rw [dKind_enc h, hd, go_put hp _ _ _ (held_in _) hf]
  congr 1
  exact hc.symm
theorem dec_enc {p : Pk} (hp : p.Wf) (h : p.right = true) : decOk p.enc = true ∧ decPk p.enc = p := by
  have e : decOk p.enc = true := by unfold decOk; rw [dec1_enc hp h]; simp [h]
  exact ⟨e, by unfold decPk; rw [e, dec1_enc hp h]; rfl⟩
theorem enc_inj {p q : Pk} (hp : p.Wf) (hq : q.Wf) (h : p.right = true) (h' : q.right = true) (he : p.enc = q.enc) : p = q := by
  rw [← (dec_enc hp h).2, he, (dec_enc hq h').2]
theorem sum_am {p : Pk} (hp : p.Wf) : ∀ l : List Pt5, (l.flatMap (fun x => x.put p)).length = (l.map Pt5.am).sum
  | [] => rfl
  | x :: r => by rw [List.flatMap_cons, List.length_append, Pt5.put_am hp, sum_am hp r, List.map_cons, List.sum_cons]
/-- How many bytes a kind has. -/
def ksize (k : Int) : Nat := 1 + ((held k).map Pt5.am).sum
theorem enc_len {p : Pk} (hp : p.Wf) : p.enc.length = ksize p.kind := by
  unfold Pk.enc Pk.laid ksize
  rw [List.length_append, lay_len, sum_am hp]
theorem enc_byte {p : Pk} (hs : ∀ z ∈ p.s, 0 ≤ z ∧ z < 256) (ht : ∀ z ∈ p.t, 0 ≤ z ∧ z < 256) : ∀ z ∈ p.enc, 0 ≤ z ∧ z ≤ 255 := by
  intro z hz
  unfold Pk.enc Pk.laid at hz
  rw [List.mem_append, List.mem_flatMap] at hz
  rcases hz with hz | ⟨x, _, hz⟩
  · exact lay_byte _ _ z hz
  · unfold Pt5.put at hz
    split at hz
    · exact lay_byte _ _ z hz
    · split at hz
      · have := hs z hz; omega
      · have := ht z hz; omega
end Go.Proofs.Ytnfdfnkhjlkdhaa
