/- What a ring holds behind pushes: the last numbers, as many as there is room for. -/
import Derived.Test.YtiokdfijodfmpaaRing3
namespace Go.Proofs.Ytiokdfijodfmpaa
namespace RS
theorem place_inj {R : RS} (h : R.Ok) {i j : Int} (hi : 0 ≤ i) (hij : i < j) (hj : j ≤ R.e) : R.place i ≠ R.place j := by
  intro he
  unfold place at he
  have h0 : ((R.f + j) - (R.f + i)) % (R.e + 1) = 0 := Int.emod_eq_emod_iff_emod_sub_eq_zero.1 he.symm
  rw [show (R.f + j) - (R.f + i) = j - i by omega, Int.emod_eq_of_lt (by omega) (by omega)] at h0
  omega
theorem put_list {R : RS} (h : R.Ok) (hh : R.h ≤ R.e) (z : Int) : (R.put z).list = R.list ++ [z] := by
  have e1 : (R.put z).h.toNat = R.h.toNat + 1 := by have := h.h0; show (R.h + 1).toNat = _; omega
  have e2 : ∀ i, (R.put z).place i = R.place i := fun i => rfl
  have e3 : ((R.h.toNat : Nat) : Int) = R.h := by have := h.h0; omega
  unfold list
  rw [e1, List.range_succ, List.map_append]
  congr 1
  · apply List.map_congr_left
    intro i hi
    rw [List.mem_range] at hi
    rw [e2]
    show (if (R.place i).toNat = (R.place R.h).toNat then z else _) = _
    obtain ⟨p, hp, -, -⟩ := R.place_bd h i
    obtain ⟨q, hq, -, -⟩ := R.place_bd h R.h
    have := place_inj h (i := i) (j := R.h) (by omega) (by omega) hh
    rw [hp, hq] at this ⊢
    rw [if_neg (by omega)]
  · simp only [List.map_cons, List.map_nil]
    rw [e2, e3]
    show [if (R.place R.h).toNat = (R.place R.h).toNat then z else _] = [z]
    rw [if_pos rfl]
theorem drop_list {R : RS} (h : R.Ok) : R.drop.list = if R.e < R.h then R.list.drop 1 else R.list := by
  unfold drop
  split
  · have := h.h0; have := h.e0
    apply List.ext_getElem
    · first | (simp [list]; done) | (simp [list]; omega)
    · intro i h1 h2
      simp only [list, List.getElem_map, List.getElem_range, List.getElem_drop]
      congr 2
      show ((R.place 1) + (i : Int)) % (R.e + 1) = (R.f + ((1 + i : Nat) : Int)) % (R.e + 1)
      unfold place
      rw [Int.emod_add_emod]
      congr 1
      omega
  · rfl
theorem push_list {R : RS} (h : R.Ok) (hl : R.l < 1099511627776) (z : Int) : (R.push z).list = (if R.e < R.h then R.list.drop 1 else R.list) ++ [z] := by
  obtain ⟨h1, h2, h3, -⟩ := drop_ok h hl
  unfold push
  rw [put_list h1 (by omega), drop_list h]
theorem push_last {R : RS} (z : Int) : (R.push z).nums ((R.push z).place ((R.push z).h - 1)).toNat = z := by
  show (if (R.drop.place (R.drop.h + 1 - 1)).toNat = (R.drop.place R.drop.h).toNat then z else _) = z
  rw [show R.drop.h + 1 - 1 = R.drop.h by omega, if_pos rfl]
theorem push_h {R : RS} (hO : R.Ok) (z : Int) : (R.push z).h = min (R.h + 1) (R.e + 1) ∧ (R.push z).l = R.l + max 0 (R.h - R.e) := by
  have := hO.h1
  unfold push put drop
  split <;> simp only <;> omega
/-- Behind the first k numbers. -/
theorem made_pushes (room : Int) (c : Nat) (hc : (c : Int) = min (max room 1) 64) (zs : List Int) (hz : zs.length ≤ 1000000) : ∀ k, k ≤ zs.length →
    ((made room).pushes (zs.take k)).Ok ∧ ((made room).pushes (zs.take k)).e = c - 1 ∧ ((made room).pushes (zs.take k)).h = min k c ∧ ((made room).pushes (zs.take k)).l = (k - c : Nat) ∧ ((made room).pushes (zs.take k)).list = (zs.take k).drop (k - c)
  | 0, _ => ⟨made_ok room, by show min (max room 1) 64 - 1 = _; omega, by show (0 : Int) = _; omega, by show (0 : Int) = _; omega, by simp [pushes, list, made]⟩
  | k + 1, hk => by
    obtain ⟨h1, h2, h3, h4, h5⟩ := made_pushes room c hc zs hz k (by omega)
    rw [pushes_snoc _ _ _ hk]
    generalize (made room).pushes (zs.take k) = R at *
    have hl : R.l < 1099511627776 := by omega
    obtain ⟨p1, p2, p3⟩ := push_ok h1 hl (zs.getD k 0)
    obtain ⟨q1, q2⟩ := push_h h1 (zs.getD k 0)
    refine ⟨p1, by omega, by omega, by omega, ?_⟩
    rw [push_list h1 hl, h5, List.take_succ_eq_append_getElem hk]
    have hk' : k < zs.length := hk
    have ez : zs.getD k 0 = zs[k] := by simp [List.getD, hk']
    have tl : (zs.take k).length = k := by rw [List.length_take]; omega
    rw [ez]
    by_cases hf : R.e < R.h
    · rw [if_pos hf, List.drop_drop, List.drop_append_of_le_length (by rw [tl]; omega)]
      congr 2
      omega
    · rw [if_neg hf, List.drop_append_of_le_length (by rw [tl]; omega)]
      congr 2
      omega
end RS
end Go.Proofs.Ytiokdfijodfmpaa
