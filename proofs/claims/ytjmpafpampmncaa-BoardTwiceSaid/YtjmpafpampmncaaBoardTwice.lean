/- BoardTwice holds for any board, any user, any statuses: what is put a second time changes nothing, and what was put is what is told. No condition. -/
import Derived.Test.YtjmpafpampmncaaBoard4
namespace Go.Proofs.Ytjmpafpampmncaa.boardTwice
open Go.ChangeShapes Go.WideShapes Go.ChangeAt Go.RowKit

theorem ok_iff (E : Bd) (u : Int) (l : List Int) : Bd.ok E u l = true ↔ 1 ≤ u ∧ u ≤ 16 ∧ ¬ Bd.same E u.toNat l := by
  unfold Bd.ok
  exact decide_eq_true_iff
theorem again (E : Bd) (u : Int) (l : List Int) : Bd.ok (Bd.put E u l) u l = false := by
  by_cases h : Bd.ok E u l = true
  · have hb := (ok_iff E u l).1 h
    have e : Bd.put E u l = Bd.upd E u.toNat ((E u.toNat).1 + 1, (Bd.fold l).1, (Bd.fold l).2) := by unfold Bd.put; rw [if_pos h]
    rw [e]
    cases h2 : Bd.ok (Bd.upd E u.toNat ((E u.toNat).1 + 1, (Bd.fold l).1, (Bd.fold l).2)) u l
    · rfl
    · exact absurd (Or.inl (by rw [Bd.upd_at]; exact ⟨rfl, rfl⟩)) ((ok_iff _ u l).1 h2).2.2
  · have e : Bd.put E u l = E := by unfold Bd.put; rw [if_neg h]
    rw [e]
    simpa using h
theorem put_id {E : Bd} {u : Int} {l : List Int} (h : Bd.ok E u l = false) : Bd.put E u l = E := by unfold Bd.put; rw [h]; rfl
theorem low_put {E : Bd} (h : ∀ i, -9223372036854775808 ≤ (E i).1) (u : Int) (l : List Int) : ∀ i, -9223372036854775808 ≤ (Bd.put E u l i).1 := by
  unfold Bd.put
  split
  · exact upd_low h (by have := h u.toNat; simp only; omega)
  · exact h

set_option maxRecDepth 10000 in
set_option maxHeartbeats 4000000 in
theorem walk (w : World) (E : Bd) (hE : ∀ i, -9223372036854775808 ≤ (E i).1) (u : Int) (w1 : (Lit.int .i64 u).wf = true)
    (A : Option Addr) (n cap : Nat) (l : List Int) (hl : n ≤ cap) (hm : cap ≤ maxLen) (hn : l.length = n) (hN : Nums .i64 w A l) (hw : ∀ z ∈ l, (Lit.int .i64 z).wf = true) :
    Calls Try.prog 6 #[.agg (Bd.cs E), .int .i64 u, .slice A n cap] w fun e w' => e = .returned (.bool true) ∧ Below w.heap.size w w' := by
  unfold maxLen at hm
  have hnb : n ≤ 9223372036854775807 := by omega
  have z0 := zero_board
  have z1 : ∀ W, (zeroValue noT).run Try.prog W = .ok (.agg #[.int .i64 0, .int .i64 0, .int .i64 0, .int .i64 0]) W := fun W => by kernel_rfl
  have hst := store_new
  have hsz := Bd.cs_size
  have Hn := Lib.hid hn
  have HN := Lib.hid hN
  have HE := Lib.hid hE
  obtain ⟨W0, hW0⟩ : ∃ V, w.alloc (.cells (Bd.cs E) boT) = V := ⟨_, rfl⟩
  have R0 : W0.heap[w.heap.size]? = some (.cells (Bd.cs E) boT) := by rw [← hW0]; exact (MapKept.heap_alloc w _).1
  have BW : Below w.heap.size w W0 := by rw [← hW0]; exact (Below.refl _ _).alloc (Nat.le_refl _) _
  have hag := again E u l
  have hlp := low_put hE u l
  have hid := @put_id E u l
  have hok := ok_iff E u l
  obtain ⟨E', hE'⟩ : ∃ E', Bd.put E u l = E' := ⟨_, rfl⟩
  obtain ⟨r, hr⟩ : ∃ r, Bd.ok E u l = r := ⟨_, rfl⟩
  obtain ⟨f, hf⟩ : ∃ f, Bd.fold l = f := ⟨_, rfl⟩
  have hnote : 1 ≤ u ∧ u ≤ 16 → Bd.note E' u = (u, (E' u.toNat).1, (E' u.toNat).2.1, (E' u.toNat).2.2) := fun h => by unfold Bd.note; rw [if_pos h]
  have hbad : ¬ (1 ≤ u ∧ u ≤ 16) → Bd.note E' u = (0, 0, 0, 0) := fun h => by unfold Bd.note; rw [if_neg h]
  have hput : r = true → E' u.toNat = ((E u.toNat).1 + 1, f.1, f.2) := fun h => by rw [← hE', ← hf]; unfold Bd.put; rw [hr, if_pos h, Bd.upd_at]
  have hsame : r = false → 1 ≤ u ∧ u ≤ 16 → ((E u.toNat).2.1 = f.1 ∧ (E u.toNat).2.2 = f.2) ∨ 1073741824 ≤ (E u.toNat).1 := fun h h2 => by
    by_cases hs : Bd.same E u.toNat l
    · unfold Bd.same at hs; rw [hf] at hs; exact hs
    · have := hok.2 ⟨h2.1, h2.2, hs⟩
      rw [hr, h] at this
      cases this
  have hnew : r = true → (E u.toNat).1 < 1073741824 ∧ 1 ≤ u ∧ u ≤ 16 := fun h => by
    have := hok.1 (hr.trans h)
    refine ⟨?_, this.1, this.2.1⟩
    have h3 := this.2.2
    unfold Bd.same at h3
    omega
  rw [hE'] at hag hlp hid
  rw [hr] at hid
  have P1 := Lib.hid hE'
  have P2 := Lib.hid (show Bd.put E' u l = E' from put_id hag)
  have O1 := Lib.hid hr
  have O2 := Lib.hid hag
  have HLP := Lib.hid hlp
  have HF := Lib.hid hf
  have HID := Lib.hid hid
  have heq := fun W => eql_refl W E'
  clear hE' hr hag hlp hf hid hok hE hn hN hw w1 hl hm
  by_cases h5 : 200 < n
  · have h5' : (200 : Int) < n := by omega
    clear hnote hbad hput hsame hnew
    go_enter Try.func6, Try.ntmps6
    go_wp2_with fail
    refine (small_any _).mono ?_
    rintro e w1 ⟨rfl, B1⟩
    go_wp2_with fail
    go_ret
    exact ⟨rfl, BW.trans (B1.mono BW.size)⟩
  · have h5' : (n : Int) ≤ 200 := by omega
    obtain ⟨nt, hnt⟩ : ∃ nt, Bd.note E' u = nt := ⟨_, rfl⟩
    obtain ⟨x0, x1, x2, x3⟩ := nt
    have NT := Lib.hid hnt
    have HX := Lib.hid (And.intro hnote (And.intro hbad (And.intro hput (And.intro hsame hnew))))
    rw [hnt] at HX
    obtain ⟨f0, f1⟩ := f
    clear hnote hbad hput hsame hnew hnt
    go_enter Try.func6, Try.ntmps6
    go_wp2_with fail
    refine (small_any _).mono ?_
    rintro e w1 ⟨rfl, B1⟩
    have R1 := row_kept R0 B1 (row_lt R0)
    have B1 := BW.trans (B1.mono BW.size)
    clear R0 BW
    go_wp2_with ((with_reducible refine wpl_loadw ?_ (.tmp 3) ?_ w.heap.size E ?_ R1 ?_); (rfl); (rfl); (rfl))
    refine (put_to P1.out O1.out Hn.out (HN.out.below B1) hnb HE.out).mono ?_
    rintro e w2 ⟨rfl, hb⟩
    have hb := hb.trans (((Below.refl w2.heap.size w2).alloc (Nat.le_refl _) (.cells (Bd.cs E') boT)).mono hb.size)
    have R1 := row_kept R1 hb (row_lt R1)
    have B1 := B1.trans (hb.mono B1.size)
    have S1 : (w2.alloc (.cells (Bd.cs E') boT)).heap[w2.heap.size]? = some (.cells (Bd.cs E') boT) := (MapKept.heap_alloc w2 _).1
    clear hb
    go_wp2_with ((with_reducible refine wpl_loadw ?_ (.tmp 8) ?_ w2.heap.size E' ?_ S1 ?_); (rfl); (rfl); (rfl))
    refine (put_to P2.out O2.out Hn.out (HN.out.below B1) hnb HLP.out).mono ?_
    rintro e w3 ⟨rfl, hb⟩
    have hb := hb.trans (((Below.refl w3.heap.size w3).alloc (Nat.le_refl _) (.cells (Bd.cs E') boT)).mono hb.size)
    have R1 := row_kept R1 hb (row_lt R1)
    have S1 := row_kept S1 hb (row_lt S1)
    have B1 := B1.trans (hb.mono B1.size)
    have T1 : (w3.alloc (.cells (Bd.cs E') boT)).heap[w3.heap.size]? = some (.cells (Bd.cs E') boT) := (MapKept.heap_alloc w3 _).1
    clear hb
    go_wp2_with ((with_reducible refine wpl_loadw ?_ (.tmp 8) ?_ w2.heap.size E' ?_ S1 ?_); (rfl); (rfl); (rfl))
    refine (note_to NT.out _).mono ?_
    rintro e w4 ⟨rfl, hb⟩
    have hb := hb.trans (((Below.refl w4.heap.size w4).alloc (Nat.le_refl _) (.cells #[.int .i64 x0, .int .i64 x1, .int .i64 x2, .int .i64 x3] noT)).mono hb.size)
    have R1 := row_kept R1 hb (row_lt R1)
    have S1 := row_kept S1 hb (row_lt S1)
    have T1 := row_kept T1 hb (row_lt T1)
    have B1 := B1.trans (hb.mono B1.size)
    have N1 : (w4.alloc (.cells #[.int .i64 x0, .int .i64 x1, .int .i64 x2, .int .i64 x3] noT)).heap[w4.heap.size]? = some (.cells #[.int .i64 x0, .int .i64 x1, .int .i64 x2, .int .i64 x3] noT) := (MapKept.heap_alloc w4 _).1
    clear hb
    go_wp2_with fail
    refine (fold_to HF.out Hn.out (HN.out.below B1) hnb).mono ?_
    rintro e w5 ⟨rfl, rfl⟩
    by_cases hu : 1 ≤ u ∧ u ≤ 16
    · obtain ⟨k, rfl⟩ : ∃ k : Nat, u = k := ⟨u.toNat, by omega⟩
      obtain ⟨xn, -, xp, xs, xw⟩ := HX.out
      rw [Int.toNat_natCast] at xn xp xs xw
      have xn := xn hu
      simp only [Prod.mk.injEq] at xn
      obtain ⟨rfl, rfl, rfl, rfl⟩ := xn
      have c0 : (w4.alloc (.cells #[.int .i64 (k : Int), .int .i64 (E' k).1, .int .i64 (E' k).2.1, .int .i64 (E' k).2.2] noT)).cell? ⟨w.heap.size, k * 3, none⟩ = some (.int .i64 (E k).1) := (row_cells R1 _).trans (Bd.cs_0 E k (by omega))
      have q1 : (k : Int) < 17 := by omega
      have q0 : (0 : Int) ≤ (k : Int) := by omega
      have h1 : (1 : Int) ≤ (k : Int) := hu.1
      have h2 : (k : Int) ≤ 16 := hu.2
      have n2 := row_cells N1
      have m2 := n2 2
      have m3 := n2 3
      clear n2
      rcases Bool.eq_false_or_eq_true r with hr | hr
      · have x1 := xp hr
        obtain ⟨x2, -⟩ := xw hr
        rw [x1] at R1 S1 T1 B1 m2 m3 c0 ⊢
        simp only at R1 S1 T1 B1 m2 m3 c0
        clear N1
        subst hr
        have u1 : decide (1073741824 ≤ (E k).1) = false := decide_eq_false (by omega)
        clear x1 x2 xp xs xw
        go_wp2_with (first
          | ((with_reducible refine wpl_loadw ?_ (.tmp 3) ?_ w.heap.size E ?_ R1 ?_); (rfl); (rfl); (rfl))
          | ((with_reducible refine wpl_loadw ?_ (.tmp 8) ?_ w2.heap.size E' ?_ S1 ?_); (rfl); (rfl); (rfl))
          | ((with_reducible refine wpl_loadw ?_ (.tmp 10) ?_ w3.heap.size E' ?_ T1 ?_); (rfl); (rfl); (rfl))
          )
        go_ret
        exact ⟨rfl, B1⟩
      · obtain rfl := HID.out hr
        have x1 := xs hr hu
        subst hr
        by_cases hfull : 1073741824 ≤ (E' k).1
        · have u1 : decide (1073741824 ≤ (E' k).1) = true := decide_eq_true hfull
          clear x1 xp xs xw
          go_wp2_with (first
            | ((with_reducible refine wpl_loadw ?_ (.tmp 3) ?_ w.heap.size E' ?_ R1 ?_); (rfl); (rfl); (rfl))
            | ((with_reducible refine wpl_loadw ?_ (.tmp 8) ?_ w2.heap.size E' ?_ S1 ?_); (rfl); (rfl); (rfl))
            | ((with_reducible refine wpl_loadw ?_ (.tmp 10) ?_ w3.heap.size E' ?_ T1 ?_); (rfl); (rfl); (rfl))
            )
          go_ret
          exact ⟨rfl, B1⟩
        · obtain ⟨x2, x3⟩ : (E' k).2.1 = f0 ∧ (E' k).2.2 = f1 := by
            rcases x1 with x1 | x1
            · exact x1
            · omega
          rw [x2, x3] at R1 S1 T1 B1 m2 m3 c0 ⊢
          clear N1 x2 x3
          have u1 : decide (1073741824 ≤ (E' k).1) = false := decide_eq_false hfull
          clear x1 xp xs xw
          go_wp2_with (first
            | ((with_reducible refine wpl_loadw ?_ (.tmp 3) ?_ w.heap.size E' ?_ R1 ?_); (rfl); (rfl); (rfl))
            | ((with_reducible refine wpl_loadw ?_ (.tmp 8) ?_ w2.heap.size E' ?_ S1 ?_); (rfl); (rfl); (rfl))
            | ((with_reducible refine wpl_loadw ?_ (.tmp 10) ?_ w3.heap.size E' ?_ T1 ?_); (rfl); (rfl); (rfl))
            )
          go_ret
          exact ⟨rfl, B1⟩
    · obtain ⟨-, xn, -, -, xw⟩ := HX.out
      have hr : r = false := by
        cases r
        · rfl
        · exact absurd (xw rfl).2 hu
      have xn := xn hu
      simp only [Prod.mk.injEq] at xn
      obtain ⟨rfl, rfl, rfl, rfl⟩ := xn
      obtain rfl := HID.out hr
      subst hr
      have n2 := row_cells N1
      have m0 := n2 0
      have m1 := n2 1
      have m2 := n2 2
      have m3 := n2 3
      clear n2 xw
      have hcase : u < 1 ∨ (1 ≤ u ∧ 16 < u) := by omega
      rcases hcase with h | ⟨h0, h⟩
      all_goals
        go_wp2_with (first
          | ((with_reducible refine wpl_loadw ?_ (.tmp 3) ?_ w.heap.size E' ?_ R1 ?_); (rfl); (rfl); (rfl))
          | ((with_reducible refine wpl_loadw ?_ (.tmp 8) ?_ w2.heap.size E' ?_ S1 ?_); (rfl); (rfl); (rfl))
          | ((with_reducible refine wpl_loadw ?_ (.tmp 10) ?_ w3.heap.size E' ?_ T1 ?_); (rfl); (rfl); (rfl))
          )
        go_ret
        exact ⟨rfl, B1⟩
theorem own : ownKnob Try.prog.godebug = none := by kernel_rfl
theorem laid : laidOutB Try.prog = true := by kernel_rfl

set_option maxRecDepth 100000 in
theorem lifted (os : Os) (started : os.Started) (H : Type) (enc : TypeId × Value → H) :
    ReturnsInHanded {} Try.checked os 6 .any (Rows.boardTwiceSpec.pre6 enc Try.prog Try.f6 Rows.boardTwiceRow.domain false) (Rows.boardTwiceSpec.post enc Try.prog Try.f6 false true false false) := by
  refine law_lifted (C := Try.checked) (B := 4) own started (by kernel_rfl) Try.func6
    (ChangeSpec.witness6 (enc := enc) (C := Try.checked) false ⟨#[], #[.agg (Bd.cs zeros), .int .i64 0, .slice none 0 0], []⟩ 8 (by kernel_rfl) (by kernel_rfl) (by kernel_rfl) (by kernel_rfl))
    rfl rfl Try.underlying4 laid (of_decide_eq_true (by kernel_rfl)) ?_ ?_
  · intro ds hl
    rw [Try.params6] at hl
    match ds, hl with
    | [d0, d1, d2], _ => rfl
  · intro W base args ds ps hval hA hlt hz
    rw [Try.params6] at hA hval
    obtain ⟨v0, vs0, d0, ds0, p0, q0, hargs, rfl, rfl, h0, r0⟩ := trodAll_cons hA
    obtain ⟨v1, vs1, d1, ds1, p1, q1, rfl, rfl, rfl, h1, r1⟩ := trodAll_cons r0
    obtain ⟨v2, vs2, d2, ds2, p2, q2, rfl, rfl, rfl, h2, r2⟩ := trodAll_cons r1
    obtain ⟨rfl, rfl, rfl⟩ := trodAll_nil r2
    obtain rfl : args = #[v0, v1, v2] := by cases args; simp_all
    obtain ⟨E0, rfl, hE0⟩ := open_board (hval 0 25 v0 rfl rfl) h0
    obtain ⟨a1, rfl, rfl, rfl, w1⟩ := open_int Try.underlying3 (hval 1 3 v1 rfl rfl) h1
    obtain ⟨A2, n2, cap2, zs2, rfl, hl2, hm2, hn2, hN2, hw2⟩ := open_nums Try.underlying26 Try.underlying3 (by kernel_rfl) (hval 2 26 v2 rfl rfl) h2
    exact walk W E0 hE0 a1 w1 A2 n2 cap2 zs2 hl2 hm2 hn2 hN2 hw2

theorem over : Rows.boardTwiceRow.holds Try.pinned (OpenSpec.ofChange Rows.boardTwiceSpec) :=
  OpenClaim.holds_of_wide 6 Try.f6 rfl rfl rfl rfl rfl rfl rfl ⟨rfl, rfl, rfl, rfl, rfl⟩ rfl rfl rfl rfl rfl (by kernel_rfl) Try.func6 (by kernel_rfl)
    (of_decide_eq_true (by kernel_rfl)) (by unfold Func.isWrapper; first | (rw [if_pos (by decide +kernel)]; kernel_rfl) | (rw [if_neg (by decide +kernel)]; exact ⟨rfl, rfl⟩))
    (fun os started H enc _ => lifted os started H enc)

theorem proved : Rows.BoardTwiceSaid := over
#print axioms proved
end Go.Proofs.Ytjmpafpampmncaa.boardTwice
