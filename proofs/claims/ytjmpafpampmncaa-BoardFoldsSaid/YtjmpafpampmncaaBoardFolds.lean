/- BoardFolds holds for any statuses, any one more: their order does not matter, others than 1 to 3 count for nothing, and one more is never less. No condition. -/
import Derived.Test.YtjmpafpampmncaaBoard4
import Derived.Test.YtjmpafpampmncaaMem5
namespace Go.Proofs.Ytjmpafpampmncaa.boardFolds
open Go.ChangeShapes Go.WideShapes Go.ChangeAt Go.RowKit

def good (s : Int) : Bool := decide (1 ≤ s ∧ s ≤ 3)
theorem step_bad (p : Int × Int) (s : Int) (h : good s = false) : Bd.step p s = p := by
  unfold Bd.step
  rw [if_neg (by simpa [good] using h)]
theorem step_comm (p : Int × Int) (a b : Int) : Bd.step (Bd.step p a) b = Bd.step (Bd.step p b) a := by
  obtain ⟨x, y⟩ := p
  simp only [Bd.step]
  by_cases ha : 1 ≤ a ∧ a ≤ 3
  · by_cases hb : 1 ≤ b ∧ b ≤ 3
    · rw [if_pos ha, if_pos hb, if_pos hb, if_pos ha]
      show (max (max x a) b, min (min (y + 1) 4 + 1) 4) = (max (max x b) a, min (min (y + 1) 4 + 1) 4)
      congr 1
      omega
    · rw [if_pos ha, if_neg hb, if_neg hb, if_pos ha]
  · rw [if_neg ha]
    by_cases hb : 1 ≤ b ∧ b ≤ 3
    · rw [if_pos hb, if_neg ha]
    · rw [if_neg hb, if_neg ha]
theorem fold_step_out : ∀ (l : List Int) (p : Int × Int) (a : Int), l.foldl Bd.step (Bd.step p a) = Bd.step (l.foldl Bd.step p) a
  | [], _, _ => rfl
  | x :: r, p, a => by rw [List.foldl_cons, List.foldl_cons, step_comm, fold_step_out r]
theorem fold_rev (l : List Int) : Bd.fold l.reverse = Bd.fold l := by
  unfold Bd.fold
  have : ∀ (l : List Int) (p : Int × Int), l.reverse.foldl Bd.step p = l.foldl Bd.step p := by
    intro l
    induction l with
    | nil => intro p; rfl
    | cons x r ih =>
      intro p
      rw [List.reverse_cons, List.foldl_append, ih, List.foldl_cons, List.foldl_nil, List.foldl_cons, fold_step_out]
  exact this l _
theorem fold_filter (l : List Int) : Bd.fold (l.filter good) = Bd.fold l := by
  unfold Bd.fold
  have : ∀ (l : List Int) (p : Int × Int), (l.filter good).foldl Bd.step p = l.foldl Bd.step p := by
    intro l
    induction l with
    | nil => intro p; rfl
    | cons x r ih =>
      intro p
      cases h : good x
      · rw [List.filter_cons_of_neg (by simp [h]), ih, List.foldl_cons, step_bad p x h]
      · rw [List.filter_cons_of_pos h, List.foldl_cons, List.foldl_cons, ih]
  exact this l _
theorem fold_more (l : List Int) (z : Int) : Bd.fold (l ++ [z]) = Bd.step (Bd.fold l) z := by
  unfold Bd.fold
  rw [List.foldl_append]
  rfl
theorem step_le (p : Int × Int) (z : Int) (h : 0 ≤ p.2 ∧ p.2 ≤ 4) : p.1 ≤ (Bd.step p z).1 ∧ p.2 ≤ (Bd.step p z).2 ∧ (Bd.step p z).2 ≤ p.2 + 1 := by
  unfold Bd.step
  split
  · simp only; omega
  · omega
theorem fold_count (l : List Int) : (Bd.fold l).2 = min ((l.filter good).length : Int) 4 ∧ (0 < (Bd.fold l).2 ↔ 0 < (Bd.fold l).1) := by
  unfold Bd.fold
  have : ∀ (l : List Int) (p : Int × Int), 0 ≤ p.1 → 0 ≤ p.2 → p.2 ≤ 4 → (0 < p.2 ↔ 0 < p.1) → (l.foldl Bd.step p).2 = min (p.2 + ((l.filter good).length : Int)) 4 ∧ (0 < (l.foldl Bd.step p).2 ↔ 0 < (l.foldl Bd.step p).1) := by
    intro l
    induction l with
    | nil => intro p h0 h1 h2 h3; exact ⟨by simp; omega, h3⟩
    | cons x r ih =>
      intro p h0 h1 h2 h3
      rw [List.foldl_cons]
      cases h : good x
      · rw [List.filter_cons_of_neg (by simp [h]), step_bad p x h]
        exact ih p h0 h1 h2 h3
      · have hg : 1 ≤ x ∧ x ≤ 3 := by simpa [good] using h
        have hs : Bd.step p x = (max p.1 x, min (p.2 + 1) 4) := by unfold Bd.step; rw [if_pos hg]
        rw [List.filter_cons_of_pos h, hs]
        obtain ⟨i1, i2⟩ := ih (max p.1 x, min (p.2 + 1) 4) (by simp only; omega) (by simp only; omega) (by simp only; omega) (by simp only; omega)
        refine ⟨?_, i2⟩
        rw [i1]
        simp only [List.length_cons]
        omega
  have := this l (0, 0) (by decide) (by decide) (by decide) (by decide)
  refine ⟨?_, this.2⟩
  rw [this.1]
  simp

set_option maxRecDepth 10000 in
set_option maxHeartbeats 4000000 in
theorem walk (w : World) (A : Option Addr) (n cap : Nat) (l : List Int) (hl : n ≤ cap) (hm : cap ≤ maxLen) (hn : l.length = n) (hN : Nums .i64 w A l) (hw : ∀ z ∈ l, (Lit.int .i64 z).wf = true) (more : Int) (w1 : (Lit.int .i64 more).wf = true) :
    Calls Try.prog 5 #[.slice A n cap, .int .i64 more] w fun e w' => e = .returned (.bool true) ∧ Below w.heap.size w w' := by
  unfold maxLen at hm
  have hnb : n ≤ 9223372036854775807 := by omega
  have Hn := Lib.hid hn
  have HN := Lib.hid hN
  obtain ⟨i0, hi, hz0, hz1, hz2⟩ := info_parts (show (Try.prog.info? 3).map (fun i => (i.zero, i.size, i.bytes)) = some (some (.int .i64 0), 1, 8) by kernel_rfl)
  have HI := Lib.hid (And.intro hi (And.intro hz0 (And.intro hz1 hz2)))
  clear hi hz0 hz1 hz2 hn hN hw w1 hl hm
  by_cases h5 : 200 < n
  · have h5' : (200 : Int) < n := by omega
    go_enter Try.func5, Try.ntmps5
    go_wp2_with fail
    refine (small_any _).mono ?_
    rintro e w1 ⟨rfl, B1⟩
    go_wp2_with fail
    go_ret
    exact ⟨rfl, B1⟩
  · have h5' : (n : Int) ≤ 200 := by omega
    have e0 : IntKind.i64.wrap ((n : Int) - 1) = (n : Int) - 1 := IntWalk.i64_in _ (by omega)
    go_enter Try.func5, Try.ntmps5
    go_wp2_with fail
    refine (small_any _).mono ?_
    rintro e w1 ⟨rfl, B1⟩
    go_wp2_with fail
    go_loopw [6, 7, 8] (fun v v2 i wr => ∃ (k : Nat) (A1 A2 : Option Addr) (c1 c2 m : Nat), k ≤ n ∧ i = .int .i64 ((k : Int) - 1) ∧ v = .slice A1 (n - k) c1 ∧ v2 = .slice A2 m c2 ∧ ((l.drop k).reverse.filter good).length = m ∧ OwnN .i64 3 w.heap.size wr A1 c1 (l.drop k).reverse ∧ OwnN .i64 3 w.heap.size wr A2 c2 ((l.drop k).reverse.filter good) ∧ Apart A1 A2 ∧ Below w.heap.size w wr) (fun _ _ i _ => (intOf i + 1).toNat)
    case atStart =>
      have e : l.drop n = [] := List.drop_of_length_le (by rw [Hn.out]; exact Nat.le_refl _)
      refine ⟨n, none, none, 0, 0, 0, Nat.le_refl _, rfl, by rw [Nat.sub_self], rfl, by rw [e]; rfl, ?_, ?_, (fun a b h => by cases h), B1⟩
      · rw [e]; exact OwnN.nil B1.size
      · rw [e]; exact OwnN.nil B1.size
    case round =>
      obtain ⟨k, A1, A2, c1, c2, m, hk, rfl, rfl, rfl, hmm, hO1, hO2, hap, hB⟩ := hrel
      clear B1
      by_cases hk0 : 0 < k
      · obtain ⟨j, rfl⟩ : ∃ j, k = j + 1 := ⟨k - 1, by omega⟩
        rcases HN.out with h0 | ⟨b, off, rfl, hb, hc⟩
        · have := Hn.out; rw [h0] at this; simp at this; omega
        have hjl : j < l.length := by rw [Hn.out]; omega
        have hcell : wr.cell? ⟨b, off + j, none⟩ = some (.int .i64 (l.getD j 0)) := (hB.cell (p := ⟨b, off + j, none⟩) hb).trans (hc j hjl)
        have hdr : (l.drop j).reverse = (l.drop (j + 1)).reverse ++ [l.getD j 0] := by
          rw [List.drop_eq_getElem_cons hjl, List.reverse_cons]
          simp [List.getD, hjl]
        have Hdr := Lib.hid hdr
        have Hbl := Lib.hid (show (l.drop (j + 1)).reverse.length = n - (j + 1) by rw [List.length_reverse, List.length_drop, Hn.out])
        have Hmm := Lib.hid hmm
        have HO1 := Lib.hid hO1
        have HO2 := Lib.hid hO2
        have HAP := Lib.hid hap
        have hz := hc j hjl
        generalize l.getD j 0 = z at hcell Hdr hz
        have HZ := Lib.hid hz
        clear hz
        have ej : ((j + 1 : Nat) : Int) - 1 = (j : Int) := by omega
        rw [ej]
        have q1 : (j : Int) < (n : Int) := by omega
        have q0 : (0 : Int) ≤ (j : Int) := by omega
        have e1 : IntKind.i64.wrap ((j : Int) - 1) = (j : Int) - 1 := IntWalk.i64_in _ (by omega)
        have Hlen := Lib.hid (show n - (j + 1) + 1 = n - j by omega)
        have hmb : m ≤ n := by rw [← hmm]; refine Nat.le_trans (List.length_filter_le ..) ?_; rw [Hbl.out]; omega
        have HW := Lib.hid (show ∀ o : Obj, ∀ b, A2 = some b → b.block < (wr.alloc o).heap.size from fun o b hb => by have := (hO2.blk hb).2; simp; omega)
        have hBA : ∀ o : Obj, Below w.heap.size w (wr.alloc o) := fun o => hB.alloc hB.size o
        have HBA := Lib.hid hBA
        have hbw := hB.size
        clear hdr hc hO1 hO2 hap ej e0 hmm hBA
        have hcase : ((z < 1) ∨ (1 ≤ z ∧ 3 < z)) ∨ (1 ≤ z ∧ z ≤ 3) := by omega
        rcases hcase with hh | ⟨h0, h⟩
        · have hg : good z = false := by unfold good; exact decide_eq_false (by omega)
          have Hf := Lib.hid (show (l.drop j).reverse.filter good = (l.drop (j + 1)).reverse.filter good by rw [Hdr.out, List.filter_append, List.filter_cons_of_neg (by simp [hg])]; simp)
          clear hg
          rcases hh with h | ⟨h0, h⟩
          all_goals
            go_wp2_with (first
              | (at_builtin; refine wpList_append_num2 rfl (.tmp 29) (.tmp 34) 26 rfl i0 8 Try.underlying26 HI.out.1 HI.out.2.1 HI.out.2.2.1 HI.out.2.2.2 (by decide) _ Hbl.out rfl (OwnN.alloc HO1.out _) _ _ z rfl (alloc_cell0 _ _ _ _ rfl) (by rw [Hbl.out]; omega) w.heap.size w (Nat.le_refl _) (HBA.out _) ?_; intro A3 c3 w3 hO3 hb3 hg3 hwh3; have hO4 := OwnN.kept (OwnN.alloc HO2.out _) hg3 HAP.out.ne; have hap3 := Apart.next HAP.out hwh3 (HW.out _); have hcell := (hb3.cell (p := ⟨b, off + j, none⟩) hb).trans HZ.out)
              )
            go_roundw
            case rel => exact ⟨j, A3, A2, c3, c2, m, by omega, rfl, by rw [Hlen.out], rfl, by rw [Hf.out]; exact Hmm.out, by rw [Hdr.out]; exact hO3, by rw [Hf.out]; exact hO4, hap3, hb3⟩
            case measure => simp [intOf] <;> omega
        · have hg : good z = true := by unfold good; exact decide_eq_true ⟨h0, h⟩
          have Hf := Lib.hid (show (l.drop j).reverse.filter good = (l.drop (j + 1)).reverse.filter good ++ [z] by rw [Hdr.out, List.filter_append, List.filter_cons_of_pos hg]; rfl)
          clear hg
          go_wp2_with (first
            | (at_builtin; refine wpList_append_num2 rfl (.tmp 29) (.tmp 34) 26 rfl i0 8 Try.underlying26 HI.out.1 HI.out.2.1 HI.out.2.2.1 HI.out.2.2.2 (by decide) _ Hbl.out rfl (OwnN.alloc HO1.out _) _ _ z rfl (alloc_cell0 _ _ _ _ rfl) (by rw [Hbl.out]; omega) w.heap.size w (Nat.le_refl _) (HBA.out _) ?_; intro A3 c3 w3 hO3 hb3 hg3 hwh3; have hO4 := OwnN.kept (OwnN.alloc HO2.out _) hg3 HAP.out.ne; have hap3 := Apart.next HAP.out hwh3 (HW.out _); have hcell := (hb3.cell (p := ⟨b, off + j, none⟩) hb).trans HZ.out)
            | (at_builtin; refine wpList_append_num2 rfl (.tmp 48) (.tmp 53) 26 rfl i0 8 Try.underlying26 HI.out.1 HI.out.2.1 HI.out.2.2.1 HI.out.2.2.2 (by decide) m Hmm.out rfl (OwnN.alloc hO4 _) _ _ z rfl (alloc_cell0 _ _ _ _ rfl) (by rw [Hmm.out]; omega) w.heap.size w (Nat.le_refl _) (hb3.alloc hb3.size _) ?_; intro A5 c5 w5 hO5 hb5 hg5 hwh5; have hO6 := OwnN.kept (OwnN.alloc hO3 _) hg5 (Apart.symm hap3).ne; have hap5 := (Apart.next (Apart.symm hap3) hwh5 (fun x hx => by have := (hO3.blk hx).2; simp; omega)).symm)
            )
          go_roundw
          case rel => exact ⟨j, A3, A5, c3, c5, m + 1, by omega, rfl, by rw [Hlen.out], rfl, by rw [Hf.out, List.length_append, Hmm.out]; rfl, by rw [Hdr.out]; exact hO6, by rw [Hf.out]; exact hO5, hap5, hb5⟩
          case measure => simp [intOf] <;> omega
      · obtain rfl : k = 0 := by omega
        rw [List.drop_zero] at hmm hO1 hO2
        rw [Nat.sub_zero]
        obtain ⟨f, hf⟩ : ∃ f, Bd.fold l = f := ⟨_, rfl⟩
        obtain ⟨v, hv⟩ : ∃ v, Bd.fold (l.reverse ++ [more]) = v := ⟨_, rfl⟩
        have x1 := Bd.fold_bd l
        have x2 := fold_count l
        have x3 := step_le (Bd.fold l) more ⟨x1.2.2.1, x1.2.2.2⟩
        have x4 : (l.filter good).length = m := by rw [← hmm, List.filter_reverse, List.length_reverse]
        rw [fold_more, fold_rev] at hv
        rw [hv, hf] at x3
        rw [hf] at x1 x2
        rw [x4] at x2
        have Hf := Lib.hid hf
        have Hb := Lib.hid (show Bd.fold l.reverse = f by rw [fold_rev]; exact hf)
        have Hs := Lib.hid (show Bd.fold (l.reverse.filter good) = f by rw [fold_filter, fold_rev]; exact hf)
        have Hv := Lib.hid (show Bd.fold (l.reverse ++ [more]) = v by rw [fold_more, fold_rev]; exact hv)
        have Hlr := Lib.hid (show l.reverse.length = n by rw [List.length_reverse, Hn.out])
        have Hla := Lib.hid (show (l.reverse ++ [more]).length = n + 1 by rw [List.length_append, Hlr.out]; rfl)
        have Hmm := Lib.hid hmm
        have HO1 := Lib.hid hO1
        have HO2 := Lib.hid hO2
        obtain ⟨f0, f1⟩ := f
        obtain ⟨v0, v1⟩ := v
        simp only at x1 x2 x3
        have hmb : m ≤ n := by rw [← x4, ← Hn.out]; exact List.length_filter_le ..
        have e5 : IntKind.i64.wrap (f1 + 1) = f1 + 1 := IntWalk.i64_in _ (by omega)
        have y : f1 = (if (4 : Int) < (m : Int) then 4 else (m : Int)) := by split <;> omega
        have y2 : (decide (0 < f1) == decide (0 < f0)) = true := by simp only [x2.2]; simp
        have Y := Lib.hid (And.intro x1 (And.intro x2 (And.intro x3 y)))
        have u1 : decide (f0 ≤ v0) = true := decide_eq_true (by omega)
        have u2 : decide (f1 ≤ v1) = true := decide_eq_true (by omega)
        have u3 : decide (v1 ≤ f1 + 1) = true := decide_eq_true (by omega)
        have u4 : decide (0 ≤ f0) = true := decide_eq_true (by omega)
        have u5 : decide (f0 ≤ 3) = true := decide_eq_true (by omega)
        have u6 : (f1 == if (4 : Int) < (m : Int) then 4 else (m : Int)) = true := by rw [← y]; simp
        clear hf hv x1 x2 x3 x4 y hmm hO1 hO2 hap e0
        go_wp2_with fail
        refine (fold_to Hf.out Hn.out (HN.out.below hB) hnb).mono ?_
        rintro e w2 ⟨rfl, rfl⟩
        go_wp2_with fail
        refine (fold_to Hb.out Hlr.out HO1.out.nums hnb).mono ?_
        rintro e w2 ⟨rfl, rfl⟩
        go_wp2_with fail
        refine (fold_to Hs.out Hmm.out HO2.out.nums (by omega)).mono ?_
        rintro e w2 ⟨rfl, rfl⟩
        go_wp2_with (first
          | (at_builtin; refine wpList_append_num rfl _ _ 26 rfl i0 8 Try.underlying26 HI.out.1 HI.out.2.1 HI.out.2.2.1 HI.out.2.2.2 (by decide) _ Hlr.out rfl (OwnN.alloc HO1.out _) _ _ more rfl (alloc_cell0 _ _ _ _ rfl) (by rw [Hlr.out]; omega) w.heap.size w (Nat.le_refl _) (hB.alloc hB.size _) ?_; intro A3 c3 w3 hO3 hb3)
          )
        refine (fold_to Hv.out Hla.out hO3.nums (by omega)).mono ?_
        rintro e w4 ⟨rfl, rfl⟩
        go_wp2_with fail
        all_goals
          go_ret
          exact ⟨ret_bool (by simp), hb3⟩
theorem own : ownKnob Try.prog.godebug = none := by kernel_rfl
theorem laid : laidOutB Try.prog = true := by kernel_rfl

set_option maxRecDepth 100000 in
theorem lifted (os : Os) (started : os.Started) (H : Type) (enc : TypeId × Value → H) :
    ReturnsInHanded {} Try.checked os 5 .any (Rows.boardFoldsSpec.pre6 enc Try.prog Try.f5 Rows.boardFoldsRow.domain false) (Rows.boardFoldsSpec.post enc Try.prog Try.f5 false true false false) := by
  refine law_lifted (C := Try.checked) (B := 4) own started (by kernel_rfl) Try.func5
    (ChangeSpec.witness6 (enc := enc) (C := Try.checked) false ⟨#[], #[.slice none 0 0, .int .i64 0], []⟩ 8 (by kernel_rfl) (by kernel_rfl) (by kernel_rfl) (by kernel_rfl))
    rfl rfl Try.underlying4 laid (of_decide_eq_true (by kernel_rfl)) ?_ ?_
  · intro ds hl
    rw [Try.params5] at hl
    match ds, hl with
    | [d0, d1], _ => rfl
  · intro W base args ds ps hval hA hlt hz
    rw [Try.params5] at hA hval
    obtain ⟨v0, vs0, d0, ds0, p0, q0, hargs, rfl, rfl, h0, r0⟩ := trodAll_cons hA
    obtain ⟨v1, vs1, d1, ds1, p1, q1, rfl, rfl, rfl, h1, r1⟩ := trodAll_cons r0
    obtain ⟨rfl, rfl, rfl⟩ := trodAll_nil r1
    obtain rfl : args = #[v0, v1] := by cases args; simp_all
    obtain ⟨A0, n0, cap0, zs0, rfl, hl0, hm0, hn0, hN0, hw0⟩ := open_nums Try.underlying26 Try.underlying3 (by kernel_rfl) (hval 0 26 v0 rfl rfl) h0
    obtain ⟨a1, rfl, rfl, rfl, w1⟩ := open_int Try.underlying3 (hval 1 3 v1 rfl rfl) h1
    exact walk W A0 n0 cap0 zs0 hl0 hm0 hn0 hN0 hw0 a1 w1

theorem over : Rows.boardFoldsRow.holds Try.pinned (OpenSpec.ofChange Rows.boardFoldsSpec) :=
  OpenClaim.holds_of_wide 5 Try.f5 rfl rfl rfl rfl rfl rfl rfl ⟨rfl, rfl, rfl, rfl, rfl⟩ rfl rfl rfl rfl rfl (by kernel_rfl) Try.func5 (by kernel_rfl)
    (of_decide_eq_true (by kernel_rfl)) (by unfold Func.isWrapper; first | (rw [if_pos (by decide +kernel)]; kernel_rfl) | (rw [if_neg (by decide +kernel)]; exact ⟨rfl, rfl⟩))
    (fun os started H enc _ => lifted os started H enc)

theorem proved : Rows.BoardFoldsSaid := over
#print axioms proved
end Go.Proofs.Ytjmpafpampmncaa.boardFolds
