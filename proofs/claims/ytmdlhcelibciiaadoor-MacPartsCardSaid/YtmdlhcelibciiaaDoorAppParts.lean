/- 'append' of slices of bytes to a new row of one. No program in it. -/
import Derived.Test.YtmdlhcelibciiaaDoorMark
import Derived.Laws.AppendOwn
import Derived.Laws.OwnMore
namespace Go.Proofs.YtmdlhcelibciiaaDoor
open Go.ChangeShapes Go.WideShapes Go.ChangeAt Go.RowKit
def prow (ps : List Pt) : List Value := ps.map fun p => Value.slice p.A p.bs.length p.cap
theorem prow_one (ps : List Pt) : ∀ v ∈ prow ps, v.oneCell' = true := by
  intro v hv
  simp only [prow, List.mem_map] at hv
  obtain ⟨_, _, rfl⟩ := hv
  rfl
theorem Parts.all {w : World} {A : Option Addr} {ps : List Pt} (h : Parts w A ps) : ∀ p ∈ ps, Nums .u8 w p.A p.bs ∧ p.bs.length ≤ p.cap ∧ p.cap ≤ maxLen := by
  intro p hp
  obtain ⟨r, hr⟩ := List.mem_iff_getElem?.1 hp
  rcases h with rfl | ⟨b, off, _, _, hc⟩
  · simp at hr
  · exact (hc r p hr).2
theorem parts_take {W : World} {g cap : Nat} {E : TypeId} {ps : List Pt} {cur : Array Value} (h : W.heap[g]? = some (.cells cur E)) (ht : cur.toList.take ps.length = prow ps) (hall : ∀ p ∈ ps, Nums .u8 W p.A p.bs ∧ p.bs.length ≤ p.cap ∧ p.cap ≤ maxLen) : Parts W (some ⟨g, 0, none⟩) ps :=
  Or.inr ⟨g, 0, rfl, row_lt h, fun r p hp => by
    refine ⟨?_, hall p (List.mem_of_getElem? hp)⟩
    have hr : r < ps.length := (List.getElem?_eq_some_iff.1 hp).1
    rw [Nat.zero_add, cell_of_row _ _ _ _ _ _ h]
    have h2 : (cur.toList.take ps.length)[r]? = some (Value.slice p.A p.bs.length p.cap) := by rw [ht, prow, List.getElem?_map, hp]; rfl
    rw [List.getElem?_take, if_pos hr] at h2
    simpa using h2⟩
theorem wpList_append_parts {P : Program} {Q : Exit → Act → World → Prop} {ops : Array Oper} {rest : List Oper} {o : Oper} {a : Act} {Wp : World} {E : TypeId} (hgd : o.guard = none) (s x : Operand) (t : TypeId)
    (ho : o.op = .call { callee := .builtin .append, args := #[s, x], argTypes := #[t, t] })
    (i : TypeInfo) (ht : P.underlying t = some (.slice E)) (hi : P.info? E = some i) (hz : i.zero = some (.slice none 0 0)) (hsize : i.size = 1) (hby : i.bytes = 24)
    (p0 : Pt) (n0 : Nat) (hn0 : p0.bs.length = n0) (h0 : Nums .u8 Wp p0.A p0.bs ∧ p0.bs.length ≤ p0.cap ∧ p0.cap ≤ maxLen) (hs : a.eval s = .slice (some ⟨Wp.heap.size, 0, none⟩) 1 1)
    (B : Option Addr) (np pcap : Nat) (ps : List Pt) (hnp : ps.length = np) (hP : Parts Wp B ps) (hx : a.eval x = .slice B np pcap) (hbig : np ≤ 1000000)
    (h : ∀ A' c' w', Parts w' A' (p0 :: ps) → 1 + np ≤ c' → c' ≤ maxLen → Below Wp.heap.size Wp w' → wpList P ops Q rest (a.put o.dst (.slice A' (1 + np) c')) w') :
    wpList P ops Q (o :: rest) a (Wp.alloc (.cells #[.slice p0.A n0 p0.cap] E)) := by
  subst hn0; subst hnp
  have hB0 : Below Wp.heap.size Wp (Wp.alloc (.cells #[.slice p0.A p0.bs.length p0.cap] E)) := (Below.refl _ _).alloc (Nat.le_refl _) _
  have hrow : (Wp.alloc (.cells #[.slice p0.A p0.bs.length p0.cap] E)).heap[Wp.heap.size]? = some (.cells #[.slice p0.A p0.bs.length p0.cap] E) := row_new
  have hall : ∀ w', Below Wp.heap.size Wp w' → ∀ p ∈ p0 :: ps, Nums .u8 w' p.A p.bs ∧ p.bs.length ≤ p.cap ∧ p.cap ≤ maxLen := fun w' hb p hp => by
    rcases List.mem_cons.1 hp with rfl | hp
    · exact ⟨h0.1.below hb, h0.2⟩
    · obtain ⟨q1, q2⟩ := hP.all p hp
      exact ⟨q1.below hb, q2⟩
  have hown : (Wp.alloc (.cells #[.slice p0.A p0.bs.length p0.cap] E)).ownsRow Wp.heap.size E 1 (.slice (some ⟨Wp.heap.size, 0, none⟩) 1 1) 1 [.slice p0.A p0.bs.length p0.cap] :=
    ⟨rfl, Or.inr ⟨Wp.heap.size, 1, #[.slice p0.A p0.bs.length p0.cap], rfl, Nat.le_refl _, hrow, Nat.le_refl _, by decide, rfl, rfl⟩⟩
  have fin : ∀ v' w', w'.ownsRow Wp.heap.size E 1 v' (1 + ps.length) ([.slice p0.A p0.bs.length p0.cap] ++ prow ps) → Below Wp.heap.size Wp w' → wpList P ops Q rest (a.put o.dst v') w' := fun v' w' ho' hb => by
    rcases ho'.2 with ⟨_, h1⟩ | ⟨g, cap, cur, rfl, _, hh, hc1, hc2, _, htk⟩
    · omega
    · refine h _ _ _ (parts_take (cap := cap) hh ?_ (hall w' hb)) hc1 hc2 hb
      rw [Nat.mul_one] at htk
      rw [List.length_cons, Nat.add_comm, htk]
      rfl
  by_cases hps : B = none
  · subst hps
    obtain rfl : ps = [] := by
      rcases hP with h | ⟨b, off, h, _⟩
      · exact h
      · cases h
    have h1 := fin _ _ hown hB0
    refine wpList_plain hgd fun K hK => ?_
    have h2 := hK _ _ h1
    have hr : (Builtin.append_ #[t, t] o.type #[.slice (some ⟨Wp.heap.size, 0, none⟩) 1 1, .slice none 0 pcap]).run P (Wp.alloc (.cells #[.slice p0.A p0.bs.length p0.cap] E)) = .ok (.slice (some ⟨Wp.heap.size, 0, none⟩) 1 1) (Wp.alloc (.cells #[.slice p0.A p0.bs.length p0.cap] E)) := by
      simp [Builtin.append_, run_underlying ht, sizeOf, typeInfo, hi, Builtin.lenOf, Builtin.firstCells, storeCells]
    unfold Oper.wp execOp
    simp only [ho, resolve, invoke, builtin, Sem.run_bind, Sem.run_pure, Result.andThen_ok, List.map_toArray, List.map_cons, List.map_nil, hs, hx, List.length_nil, hr]
    exact h2
  · obtain ⟨ad, rfl⟩ : ∃ ad, B = some ad := by
      cases B with
      | none => exact absurd rfl hps
      | some ad => exact ⟨ad, rfl⟩
    refine wpList_plain hgd fun K hK => wp_append_own _ s x t ho Wp.heap.size E i (.slice none 0 0) 1 24 ht hi hz hsize hby rfl (by decide) _ _ _ hs hown ad ps.length pcap (prow ps) hx (by simp [prow]) ?_ (prow_one ps) (by unfold maxLen; omega) (by omega) (by simp) ?_
    · intro j u hj
      rcases hP.below hB0 with h1 | ⟨b, off, hA, _, hc⟩
      · rw [h1] at hj; simp [prow] at hj
      · injection hA with hA
        subst hA
        unfold prow at hj
        rw [List.getElem?_map] at hj
        obtain ⟨p, hp, rfl⟩ := Option.map_eq_some_iff.1 hj
        rw [add_plain]
        exact (hc j p hp).1
    · intro v' w' ho' hgrow _
      exact hK _ _ (fin v' w' ho' (hB0.grown hgrow (Nat.le_of_lt (by simp)) (fun g hg => by
        have := (hown.lt g hg).1; exact this)))
end Go.Proofs.YtmdlhcelibciiaaDoor
