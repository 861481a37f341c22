/- Packets as rows of cells: twelve whole numbers, sixteen bytes, eight bytes. -/
import Derived.Test.YtnfdfnkhjlkdhaaRows
import Derived.Test.YtnfdfnkhjlkdhaaArrEq
import Derived.Test.YtnfdfnkhjlkdhaaArr2
import Derived.Laws.StructEq
import Derived.Laws.CopyOwn
namespace Go.Proofs.Ytnfdfnkhjlkdhaa
open Go.ChangeShapes Go.WideShapes Go.ChangeAt Go.RowKit
abbrev pkT : TypeId := 25
abbrev b16T : TypeId := 22
abbrev b8T : TypeId := 23
@[ext] structure Pk where
  h : List Int
  s : List Int
  t : List Int
deriving DecidableEq
structure Pk.Wf (p : Pk) : Prop where
  h : p.h.length = 12
  s : p.s.length = 16
  t : p.t.length = 8
/-- The cells of a packet. -/
def pcs (p : Pk) : List Value := nrow .i64 p.h ++ (nrow .u8 p.s ++ nrow .u8 p.t)
theorem pcs_len {p : Pk} (h : p.Wf) : (pcs p).length = 36 := by simp [pcs, nrow_len, h.h, h.s, h.t]
theorem pcs_one (p : Pk) : ∀ v ∈ pcs p, v.oneCell' = true := by
  intro v hv
  simp only [pcs, List.mem_append] at hv
  rcases hv with hv | hv | hv <;> exact nrow_one _ _ v hv
theorem pcs_at {p : Pk} (h : p.Wf) (i : Nat) (hi : i < 12) : (pcs p)[i]? = some (.int .i64 (p.h.getD i 0)) := by
  have := ncs_at .i64 p.h i (by rw [h.h]; exact hi)
  unfold ncs at this
  rw [List.getElem?_toArray] at this
  rw [pcs, List.getElem?_append_left (by rw [nrow_len, h.h]; exact hi), this]
theorem pcs_set {p : Pk} (h : p.Wf) (i : Nat) (hi : i < 12) (x : Int) : (pcs p).set i (.int .i64 x) = pcs { p with h := p.h.set i x } := by
  rw [pcs, pcs, List.set_append_left _ _ (by rw [nrow_len, h.h]; exact hi)]
  simp [nrow, List.map_set]
theorem pcs_secret {p : Pk} (h : p.Wf) : ((pcs p).drop 12).take 16 = nrow .u8 p.s := by
  rw [pcs, List.drop_append_of_le_length (by rw [nrow_len, h.h]; exact Nat.le_refl _), List.drop_of_length_le (by rw [nrow_len, h.h]; exact Nat.le_refl _), List.nil_append, List.take_append_of_le_length (by rw [nrow_len, h.s]; exact Nat.le_refl _), List.take_of_length_le (by rw [nrow_len, h.s]; exact Nat.le_refl _)]
theorem pcs_tag {p : Pk} (h : p.Wf) : ((pcs p).drop 28).take 8 = nrow .u8 p.t := by
  rw [pcs, ← List.append_assoc, List.drop_append_of_le_length (by simp [nrow_len, h.h, h.s]), List.drop_of_length_le (by simp [nrow_len, h.h, h.s]), List.nil_append, List.take_of_length_le (by rw [nrow_len, h.t]; exact Nat.le_refl _)]
theorem splice_mid {α : Type} (A B C X : List α) (o : Nat) (ho : A.length = o) (h : X.length = B.length) : splice (A ++ (B ++ C)) o X = A ++ (X ++ C) := by
  subst ho
  unfold splice
  rw [List.take_left' rfl, h, ← List.append_assoc A B C, List.drop_left' (by simp)]
theorem splice_secret {p : Pk} (h : p.Wf) {s : List Int} (hs : s.length = 16) : splice (pcs p) 12 (nrow .u8 s) = pcs { p with s := s } :=
  splice_mid _ _ _ _ 12 (by rw [nrow_len, h.h]) (by rw [nrow_len, nrow_len, h.s, hs])
theorem splice_tag {p : Pk} (h : p.Wf) {t : List Int} (ht : t.length = 8) : splice (pcs p) 28 (nrow .u8 t) = pcs { p with t := t } := by
  have := splice_mid (nrow .i64 p.h ++ nrow .u8 p.s) (nrow .u8 p.t) [] (nrow .u8 t) 28 (by rw [List.length_append, nrow_len, nrow_len, h.h, h.s]) (by rw [nrow_len, nrow_len, h.t, ht])
  rw [List.append_nil, List.append_nil, List.append_assoc, List.append_assoc] at this
  exact this
theorem info_pk : (Try.prog.info? pkT).map (·.size) = some 36 := by kernel_rfl
/-- Of nothing. -/
def pk0 : Pk := ⟨List.replicate 12 0, List.replicate 16 0, List.replicate 8 0⟩
theorem pk0_wf : pk0.Wf := ⟨rfl, rfl, rfl⟩
theorem zero_pk (W : World) : (zeroValue pkT).run Try.prog W = .ok (.agg (pcs pk0).toArray) W := by kernel_rfl

/- When two packets are equal. -/
theorem eqf_step {P : Program} {d : Nat} {xs ys : Array Value} {f : Field} {fs : List Field} {W : World} {a b : Value} {q r : Bool} (hn : f.name ≠ "_") (ha : (part f.type xs f.offset).run P W = .ok a W) (hb : (part f.type ys f.offset).run P W = .ok b W) (he : (Op.equalIn d f.type a b).run P W = .ok q W) (hr : (Op.eqFields d xs ys fs).run P W = .ok r W) :
    (Op.eqFields d xs ys (f :: fs)).run P W = .ok (q && r) W := by
  simp only [Op.eqFields, hn, ne_eq, not_false_eq_true, if_true, Sem.run_bind, ha, hb, he, Result.andThen_ok]
  cases q
  · simp
  · simpa using hr
theorem part_num (W : World) {p : Pk} (h : p.Wf) (i : Nat) (hi : i < 12) : (part 3 (pcs p).toArray i).run Try.prog W = .ok (.int .i64 (p.h.getD i 0)) W := by
  have hs : (isAgg 3).run Try.prog W = .ok false W := by
    unfold isAgg
    simp only [Sem.run_bind, run_underlying Try.underlying3, Result.andThen_ok, Sem.run_pure]
  unfold part
  have hc : (pcs p).toArray[i]? = some (.int .i64 (p.h.getD i 0)) := by rw [List.getElem?_toArray]; exact pcs_at h i hi
  simp only [Sem.run_bind, hs, Result.andThen_ok, Bool.false_eq_true, if_false, hc, Sem.run_pure]
theorem part_row (W : World) {T : TypeId} {n o : Nat} (hu : Try.prog.underlying T = some (.array n 5)) (hi : (Try.prog.info? T).isSome = true) (hc : Try.prog.cellsOf T = n) (L : List Value) : (part T L.toArray o).run Try.prog W = .ok (.agg ((L.drop o).take n).toArray) W := by
  have hs : (isAgg T).run Try.prog W = .ok true W := by
    unfold isAgg
    simp only [Sem.run_bind, run_underlying hu, Result.andThen_ok, Sem.run_pure]
  obtain ⟨i, hi1⟩ := Option.isSome_iff_exists.1 hi
  have hsz : (sizeOf T).run Try.prog W = .ok n W := by
    rw [run_sizeOf W hi1, hc]
  unfold part
  simp only [Sem.run_bind, hs, Result.andThen_ok, if_true, hsz, Sem.run_pure]
  congr 2
  simp [List.extract_toArray, List.extract]
theorem eql_int1 (d : Nat) (W : World) (a b : Int) : (Op.equalIn (d + 1) 3 (.int .i64 a) (.int .i64 b)).run Try.prog W = .ok (a == b) W := run_equalIn_int W d _ _ _ a b Try.underlying3
theorem eql_row (d : Nat) (W : World) {T : TypeId} {n : Nat} (hu : Try.prog.underlying T = some (.array n 5)) (x y : List Int) (hx : x.length = n) (hy : y.length = n) : (Op.equalIn (d + 2) T (.agg (nrow .u8 x).toArray) (.agg (nrow .u8 y).toArray)).run Try.prog W = .ok (decide (x = y)) W := by
  have he := Try.underlying5
  obtain ⟨i, hi⟩ := Option.isSome_iff_exists.1 (show (Try.prog.info? 5).isSome = true by kernel_rfl)
  have hc : Try.prog.cellsOf 5 = 1 := by kernel_rfl
  rw [show d + 2 = (d + 1) + 1 from rfl, run_equalIn_array W (d + 1) _ _ hu hi, hc, items_ints he W d x y _ (fun i h => ⟨by have := List.mem_range.1 h; omega, by have := List.mem_range.1 h; omega⟩)]
  congr 1
  exact decide_eq_decide.2 (same_getD hx hy)
theorem pk_fields : (Try.prog.fieldsOf pkT).toList.map (fun f => (f.name == "_", f.type, f.offset)) = [(false, 3, 0), (false, 3, 1), (false, 3, 2), (false, 3, 3), (false, 3, 4), (false, 3, 5), (false, 3, 6), (false, 3, 7), (false, 3, 8), (false, 3, 9), (false, 3, 10), (false, 3, 11), (false, b16T, 12), (false, b8T, 28)] := by kernel_rfl
/-- Whether the parts of two packets that these fields name are equal. -/
def pkEq (x y : Pk) : List (Bool × TypeId × Nat) → Bool
  | [] => true
  | (_, _, o) :: fs => (if o < 12 then x.h.getD o 0 == y.h.getD o 0 else if o = 12 then decide (x.s = y.s) else decide (x.t = y.t)) && pkEq x y fs
theorem eqf_all (W : World) {x y : Pk} (hx : x.Wf) (hy : y.Wf) : ∀ fs : List Field, (∀ f ∈ fs, f.name ≠ "_" ∧ ((f.type = 3 ∧ f.offset < 12) ∨ (f.type = b16T ∧ f.offset = 12) ∨ (f.type = b8T ∧ f.offset = 28))) →
    (Op.eqFields 9999 (pcs x).toArray (pcs y).toArray fs).run Try.prog W = .ok (pkEq x y (fs.map (fun f => (f.name == "_", f.type, f.offset)))) W
  | [], _ => by simp [Op.eqFields, pkEq]
  | f :: fs, h => by
    obtain ⟨hn, h1⟩ := h f (List.mem_cons_self ..)
    have ih := eqf_all W hx hy fs (fun g hg => h g (List.mem_cons_of_mem _ hg))
    rw [List.map_cons, pkEq]
    obtain ⟨nm, ty, off, em, tg⟩ := f
    simp only at h1 hn ⊢
    rcases h1 with ⟨rfl, ho⟩ | ⟨rfl, rfl⟩ | ⟨rfl, rfl⟩
    · rw [if_pos ho]
      exact eqf_step hn (part_num W hx off ho) (part_num W hy off ho) (eql_int1 9998 W _ _) ih
    · rw [if_neg (by decide), if_pos rfl]
      refine eqf_step hn (part_row W Try.underlying22 (by kernel_rfl) (by kernel_rfl) _) (part_row W Try.underlying22 (by kernel_rfl) (by kernel_rfl) _) ?_ ih
      rw [pcs_secret hx, pcs_secret hy]
      exact eql_row 9997 W Try.underlying22 _ _ hx.s hy.s
    · rw [if_neg (by decide), if_neg (by decide)]
      refine eqf_step hn (part_row W Try.underlying23 (by kernel_rfl) (by kernel_rfl) _) (part_row W Try.underlying23 (by kernel_rfl) (by kernel_rfl) _) ?_ ih
      rw [pcs_tag hx, pcs_tag hy]
      exact eql_row 9997 W Try.underlying23 _ _ hx.t hy.t
theorem eql_pk (W : World) {x y : Pk} (hx : x.Wf) (hy : y.Wf) : (Op.equalIn 10000 pkT (.agg (pcs x).toArray) (.agg (pcs y).toArray)).run Try.prog W = .ok (decide (x = y)) W := by
  rw [show (10000 : Nat) = 9999 + 1 from rfl, run_equalIn_struct W 9999 pkT _ _ (by kernel_rfl) (by kernel_rfl)]
  have hf : ∀ f ∈ (Try.prog.fieldsOf pkT).toList, f.name ≠ "_" ∧ ((f.type = 3 ∧ f.offset < 12) ∨ (f.type = b16T ∧ f.offset = 12) ∨ (f.type = b8T ∧ f.offset = 28)) := fun f hf => by
    have hm : ((f.name == "_"), f.type, f.offset) ∈ (Try.prog.fieldsOf pkT).toList.map (fun f => (f.name == "_", f.type, f.offset)) := List.mem_map.2 ⟨f, hf, rfl⟩
    rw [pk_fields] at hm
    simp only [List.mem_cons, Prod.mk.injEq, List.not_mem_nil, or_false] at hm
    refine ⟨fun he => ?_, ?_⟩
    · have : (f.name == "_") = true := by rw [he]; rfl
      rw [this] at hm
      simp at hm
    · rcases hm with ⟨_, h1, h2⟩ | ⟨_, h1, h2⟩ | ⟨_, h1, h2⟩ | ⟨_, h1, h2⟩ | ⟨_, h1, h2⟩ | ⟨_, h1, h2⟩ | ⟨_, h1, h2⟩ | ⟨_, h1, h2⟩ | ⟨_, h1, h2⟩ | ⟨_, h1, h2⟩ | ⟨_, h1, h2⟩ | ⟨_, h1, h2⟩ | ⟨_, h1, h2⟩ | ⟨_, h1, h2⟩
      all_goals first
        | exact Or.inl ⟨h1, by omega⟩
        | exact Or.inr (Or.inl ⟨h1, h2⟩)
        | exact Or.inr (Or.inr ⟨h1, h2⟩)
  rw [eqf_all W hx hy _ hf, pk_fields]
  congr 1
  simp only [pkEq, if_true, Nat.reduceLT, Nat.reduceEqDiff, if_false]
  rw [Bool.eq_iff_iff]
  simp only [Bool.and_eq_true, beq_iff_eq, decide_eq_true_eq, Bool.and_true]
  constructor
  · rintro ⟨h0, h1, h2, h3, h4, h5, h6, h7, h8, h9, h10, h11, hs, ht⟩
    refine Pk.ext ?_ hs ht
    apply List.ext_getElem (by rw [hx.h, hy.h])
    intro i i1 i2
    have hi : i < 12 := by rw [hx.h] at i1; exact i1
    have hall : x.h.getD i 0 = y.h.getD i 0 := by
      have : i = 0 ∨ i = 1 ∨ i = 2 ∨ i = 3 ∨ i = 4 ∨ i = 5 ∨ i = 6 ∨ i = 7 ∨ i = 8 ∨ i = 9 ∨ i = 10 ∨ i = 11 := by omega
      rcases this with rfl | rfl | rfl | rfl | rfl | rfl | rfl | rfl | rfl | rfl | rfl | rfl <;> assumption
    simpa [List.getD, i1, i2] using hall
  · rintro rfl
    simp
end Go.Proofs.Ytnfdfnkhjlkdhaa
