/- BoardTells holds for any board, any user, any statuses, any two notes: what is folded, put, and told is as the document's own answer tells. No condition. -/
import Derived.Test.YtjmpafpampmncaaBoardRef
import Derived.BigQuiet
namespace Go.Proofs.Ytjmpafpampmncaa.boardTells
open Go.ChangeShapes Go.WideShapes Go.ChangeAt Go.RowKit

/-- The worlds in which three boards and two notes lie as they were laid. -/
structure Five (w : World) (g0 g1 g2 g3 g4 : Nat) (E E' : Bd) (n1 n2 : Array Value) where
  val : World
  r0 : val.heap[g0]? = some (.cells (Bd.cs E) boT)
  r1 : val.heap[g1]? = some (.cells (Bd.cs E') boT)
  r2 : val.heap[g2]? = some (.cells (Bd.cs E') boT)
  r3 : val.heap[g3]? = some (.cells n1 noT)
  r4 : val.heap[g4]? = some (.cells n2 noT)
  low : Below w.heap.size w val
theorem five_left {g : FuncId} {args : Array Value} {w : World} {g0 g1 g2 g3 g4 : Nat} {E E' : Bd} {n1 n2 : Array Value} {u : Five w g0 g1 g2 g3 g4 E E' n1 n2} {v : Value}
    (h : Calls Try.prog g args u.val fun e w' => e = .returned v ∧ Below u.val.heap.size u.val w') : Calls Try.prog g args u.val fun e w'' => e = .returned v ∧ ∃ n : Five w g0 g1 g2 g3 g4 E E' n1 n2, w'' = n.val :=
  h.mono fun _ w' ⟨he, hb⟩ => ⟨he, ⟨w', row_kept u.r0 hb (row_lt u.r0), row_kept u.r1 hb (row_lt u.r1), row_kept u.r2 hb (row_lt u.r2), row_kept u.r3 hb (row_lt u.r3), row_kept u.r4 hb (row_lt u.r4), u.low.trans (hb.mono u.low.size)⟩, rfl⟩

set_option maxRecDepth 10000 in
set_option maxHeartbeats 4000000 in
theorem walk (w : World) (E : Bd) (hE : ∀ i, -9223372036854775808 ≤ (E i).1) (u : Int) (w1 : (Lit.int .i64 u).wf = true)
    (A : Option Addr) (n cap : Nat) (l : List Int) (hl : n ≤ cap) (hm : cap ≤ maxLen) (hn : l.length = n) (hN : Nums .i64 w A l) (hw : ∀ z ∈ l, (Lit.int .i64 z).wf = true)
    (a b c d a' b' c' d' : Int) :
    Calls Try.prog 3 #[.agg (Bd.cs E), .int .i64 u, .slice A n cap, .agg #[.int .i64 a, .int .i64 b, .int .i64 c, .int .i64 d], .agg #[.int .i64 a', .int .i64 b', .int .i64 c', .int .i64 d']] w fun e w' => e = .returned (.bool true) ∧ Below w.heap.size w w' := by
  unfold maxLen at hm
  have hnb : n ≤ 9223372036854775807 := by omega
  have z0 := zero_board
  have hst := store_new
  have hsz := Bd.cs_size
  have Hn := Lib.hid hn
  have HN := Lib.hid hN
  have HE := Lib.hid hE
  obtain ⟨W1, hW1⟩ : ∃ V, w.alloc (.cells (Bd.cs E) boT) = V := ⟨_, rfl⟩
  have R0 : W1.heap[w.heap.size]? = some (.cells (Bd.cs E) boT) := by rw [← hW1]; exact (MapKept.heap_alloc w _).1
  have BW : Below w.heap.size w W1 := by rw [← hW1]; exact (Below.refl _ _).alloc (Nat.le_refl _) _
  obtain ⟨W0, hW0⟩ : ∃ V, (W1.alloc (.cells #[.int .i64 a, .int .i64 b, .int .i64 c, .int .i64 d] noT)).alloc (.cells #[.int .i64 a', .int .i64 b', .int .i64 c', .int .i64 d'] noT) = V := ⟨_, rfl⟩
  have R0 : W0.heap[w.heap.size]? = some (.cells (Bd.cs E) boT) := by rw [← hW0]; exact (Below.heap_alloc _ _ _ (by have := row_lt R0; simp; omega)).trans ((Below.heap_alloc _ _ _ (row_lt R0)).trans R0)
  have R3 : W0.heap[W1.heap.size]? = some (.cells #[.int .i64 a, .int .i64 b, .int .i64 c, .int .i64 d] noT) := by rw [← hW0]; exact (Below.heap_alloc _ _ _ (by simp)).trans (MapKept.heap_alloc W1 _).1
  have R4 : W0.heap[W1.heap.size + 1]? = some (.cells #[.int .i64 a', .int .i64 b', .int .i64 c', .int .i64 d'] noT) := by
    rw [← hW0]
    have := (MapKept.heap_alloc (W1.alloc (.cells #[.int .i64 a, .int .i64 b, .int .i64 c, .int .i64 d] noT)) (.cells #[.int .i64 a', .int .i64 b', .int .i64 c', .int .i64 d'] noT)).1
    simpa using this
  have BW : Below w.heap.size w W0 := by rw [← hW0]; exact (BW.alloc BW.size _).alloc (by have := BW.size; simp; omega) _
  obtain ⟨E', hE'⟩ : ∃ E', Bd.put E u l = E' := ⟨_, rfl⟩
  obtain ⟨r, hr⟩ : ∃ r, Bd.ok E u l = r := ⟨_, rfl⟩
  obtain ⟨f, hf⟩ : ∃ f, Bd.fold l = f := ⟨_, rfl⟩
  obtain ⟨nt, hnt⟩ : ∃ nt, Bd.note E u = nt := ⟨_, rfl⟩
  obtain ⟨f0, f1⟩ := f
  obtain ⟨x0, x1, x2, x3⟩ := nt
  have P1 := Lib.hid hE'
  have O1 := Lib.hid hr
  have HF := Lib.hid hf
  have NT := Lib.hid hnt
  have heq := fun W => eql_refl W E'
  clear hE' hr hf hnt hE hn hN hw w1 hl hm
  by_cases h5 : 200 < n
  · have h5' : (200 : Int) < n := by omega
    go_enter Try.func3, Try.ntmps3
    go_wp2_with fail
    refine (small_any _).mono ?_
    rintro e w1 ⟨rfl, B1⟩
    go_wp2_with fail
    go_ret
    exact ⟨rfl, BW.trans (B1.mono BW.size)⟩
  · have h5' : (n : Int) ≤ 200 := by omega
    go_enter Try.func3, Try.ntmps3
    go_wp2_with fail
    refine (small_any _).mono ?_
    rintro e w1 ⟨rfl, hb⟩
    have R0 := row_kept R0 hb (row_lt R0)
    have R3 := row_kept R3 hb (row_lt R3)
    have R4 := row_kept R4 hb (row_lt R4)
    have BW := BW.trans (hb.mono BW.size)
    clear hb
    go_wp2_with fail
    refine (fold_to HF.out Hn.out (HN.out.below BW) hnb).mono ?_
    rintro e w' ⟨rfl, rfl⟩
    go_wp2_with fail
    refine (rfold_to HF.out Hn.out (HN.out.below BW) hnb).mono ?_
    rintro e w' ⟨rfl, rfl⟩
    go_wp2_with ((with_reducible refine wpl_loadw ?_ (.tmp 5) ?_ w.heap.size E ?_ R0 ?_); (rfl); (rfl); (rfl))
    refine (put_to P1.out O1.out Hn.out (HN.out.below BW) hnb HE.out).mono ?_
    rintro e w2 ⟨rfl, hb⟩
    have hb := hb.trans (((Below.refl w2.heap.size w2).alloc (Nat.le_refl _) (.cells (Bd.cs E') boT)).mono hb.size)
    have R0 := row_kept R0 hb (row_lt R0)
    have R3 := row_kept R3 hb (row_lt R3)
    have R4 := row_kept R4 hb (row_lt R4)
    have R1 : (w2.alloc (.cells (Bd.cs E') boT)).heap[w2.heap.size]? = some (.cells (Bd.cs E') boT) := (MapKept.heap_alloc w2 _).1
    have BW := BW.trans (hb.mono BW.size)
    clear hb
    go_wp2_with ((with_reducible refine wpl_loadw ?_ (.tmp 5) ?_ w.heap.size E ?_ R0 ?_); (rfl); (rfl); (rfl))
    refine (rput_to P1.out O1.out Hn.out (HN.out.below BW) hnb HE.out).mono ?_
    rintro e w3 ⟨rfl, hb⟩
    have hb := hb.trans (((Below.refl w3.heap.size w3).alloc (Nat.le_refl _) (.cells (Bd.cs E') boT)).mono hb.size)
    have R0 := row_kept R0 hb (row_lt R0)
    have R3 := row_kept R3 hb (row_lt R3)
    have R4 := row_kept R4 hb (row_lt R4)
    have R1 := row_kept R1 hb (row_lt R1)
    have R2 : (w3.alloc (.cells (Bd.cs E') boT)).heap[w3.heap.size]? = some (.cells (Bd.cs E') boT) := (MapKept.heap_alloc w3 _).1
    have BW := BW.trans (hb.mono BW.size)
    clear hb
    go_wp2_with fail
    have c3 : ∀ (u : Five w w.heap.size w2.heap.size w3.heap.size W1.heap.size (W1.heap.size + 1) E E' #[.int .i64 a, .int .i64 b, .int .i64 c, .int .i64 d] #[.int .i64 a', .int .i64 b', .int .i64 c', .int .i64 d']) (i : Nat), u.val.cell? ⟨W1.heap.size, i, none⟩ = #[Value.int .i64 a, .int .i64 b, .int .i64 c, .int .i64 d][i]? := fun u i => cell_of_row _ _ _ _ _ _ u.r3
    have c4 : ∀ (u : Five w w.heap.size w2.heap.size w3.heap.size W1.heap.size (W1.heap.size + 1) E E' #[.int .i64 a, .int .i64 b, .int .i64 c, .int .i64 d] #[.int .i64 a', .int .i64 b', .int .i64 c', .int .i64 d']) (i : Nat), u.val.cell? ⟨W1.heap.size + 1, i, none⟩ = #[Value.int .i64 a', .int .i64 b', .int .i64 c', .int .i64 d'][i]? := fun u i => cell_of_row _ _ _ _ _ _ u.r4
    have hne : Nonempty (Five w w.heap.size w2.heap.size w3.heap.size W1.heap.size (W1.heap.size + 1) E E' #[.int .i64 a, .int .i64 b, .int .i64 c, .int .i64 d] #[.int .i64 a', .int .i64 b', .int .i64 c', .int .i64 d']) := ⟨⟨_, R0, R1, R2, R3, R4, BW⟩⟩
    refine region_class (fun u : Five w w.heap.size w2.heap.size w3.heap.size W1.heap.size (W1.heap.size + 1) E E' #[.int .i64 a, .int .i64 b, .int .i64 c, .int .i64 d] #[.int .i64 a', .int .i64 b', .int .i64 c', .int .i64 d'] => u.val) ⟨(w3.alloc (.cells (Bd.cs E') boT)).drew, R0, R1, R2, R3, R4, below_drewN BW 1⟩ rfl (by kernel_rfl) (by kernel_rfl) ?_
    clear R0 R1 R2 R3 R4 BW
    repeat (first
      | ((with_reducible refine wpQuiet_board ?_ (.tmp 5) ?_ w.heap.size E ?_ (fun u => u.r0) ?_); (rfl); (rfl); (rfl); (conv => arg 6; simp only [Act.put, List.setIfInBounds_toArray, List.set_cons_succ, List.set_cons_zero]))
      | ((with_reducible refine wpQuiet_board ?_ (.tmp 16) ?_ w2.heap.size E' ?_ (fun u => u.r1) ?_); (rfl); (rfl); (rfl); (conv => arg 6; simp only [Act.put, List.setIfInBounds_toArray, List.set_cons_succ, List.set_cons_zero]))
      | ((with_reducible refine wpQuiet_board ?_ (.tmp 18) ?_ w3.heap.size E' ?_ (fun u => u.r2) ?_); (rfl); (rfl); (rfl); (conv => arg 6; simp only [Act.put, List.setIfInBounds_toArray, List.set_cons_succ, List.set_cons_zero]))
      | go_big_quiet_step ((first
          | (go_at_call 13; with_reducible exact five_left (note_to NT.out _))
          | (go_at_call 14; with_reducible exact five_left (rnote_to NT.out _))
          | (go_at_call 15; exact five_left (newer_any _ _ _ _ _ _ _ _ _))
          | (go_at_call 16; exact five_left (rnewer_any _ _ _ _ _ _ _ _ _))
          )))
    with_reducible refine wpQuiet_nil ?_
    rintro _ ⟨u, rfl⟩
    go_wp2
    go_ret
    exact ⟨ret_bool (by simp), u.low⟩
theorem own : ownKnob Try.prog.godebug = none := by kernel_rfl
theorem laid : laidOutB Try.prog = true := by kernel_rfl

set_option maxRecDepth 100000 in
theorem lifted (os : Os) (started : os.Started) (H : Type) (enc : TypeId × Value → H) :
    ReturnsInHanded {} Try.checked os 3 .any (Rows.boardTellsSpec.pre6 enc Try.prog Try.f3 Rows.boardTellsRow.domain false) (Rows.boardTellsSpec.post enc Try.prog Try.f3 false true false false) := by
  refine law_lifted (C := Try.checked) (B := 4) own started (by kernel_rfl) Try.func3
    (ChangeSpec.witness6 (enc := enc) (C := Try.checked) false ⟨#[], #[.agg (Bd.cs zeros), .int .i64 0, .slice none 0 0, .agg #[.int .i64 0, .int .i64 0, .int .i64 0, .int .i64 0], .agg #[.int .i64 0, .int .i64 0, .int .i64 0, .int .i64 0]], []⟩ 8 (by kernel_rfl) (by kernel_rfl) (by kernel_rfl) (by kernel_rfl))
    rfl rfl Try.underlying4 laid (of_decide_eq_true (by kernel_rfl)) ?_ ?_
  · intro ds hl
    rw [Try.params3] at hl
    match ds, hl with
    | [d0, d1, d2, d3, d4], _ => rfl
  · intro W base args ds ps hval hA hlt hz
    rw [Try.params3] at hA hval
    obtain ⟨v0, vs0, d0, ds0, p0, q0, hargs, rfl, rfl, h0, r0⟩ := trodAll_cons hA
    obtain ⟨v1, vs1, d1, ds1, p1, q1, rfl, rfl, rfl, h1, r1⟩ := trodAll_cons r0
    obtain ⟨v2, vs2, d2, ds2, p2, q2, rfl, rfl, rfl, h2, r2⟩ := trodAll_cons r1
    obtain ⟨v3, vs3, d3, ds3, p3, q3, rfl, rfl, rfl, h3, r3⟩ := trodAll_cons r2
    obtain ⟨v4, vs4, d4, ds4, p4, q4, rfl, rfl, rfl, h4, r4⟩ := trodAll_cons r3
    obtain ⟨rfl, rfl, rfl⟩ := trodAll_nil r4
    obtain rfl : args = #[v0, v1, v2, v3, v4] := by cases args; simp_all
    obtain ⟨E0, rfl, hE0⟩ := open_board (hval 0 25 v0 rfl rfl) h0
    obtain ⟨a1, rfl, rfl, rfl, w1⟩ := open_int Try.underlying3 (hval 1 3 v1 rfl rfl) h1
    obtain ⟨A2, n2, cap2, zs2, rfl, hl2, hm2, hn2, hN2, hw2⟩ := open_nums Try.underlying26 Try.underlying3 (by kernel_rfl) (hval 2 26 v2 rfl rfl) h2
    obtain ⟨a3, b3, c3, e3, rfl⟩ := open_note (hval 3 28 v3 rfl rfl) h3
    obtain ⟨a4, b4, c4, e4, rfl⟩ := open_note (hval 4 28 v4 rfl rfl) h4
    exact walk W E0 hE0 a1 w1 A2 n2 cap2 zs2 hl2 hm2 hn2 hN2 hw2 a3 b3 c3 e3 a4 b4 c4 e4

theorem over : Rows.boardTellsRow.holds Try.pinned (OpenSpec.ofChange Rows.boardTellsSpec) :=
  OpenClaim.holds_of_wide 3 Try.f3 rfl rfl rfl rfl rfl rfl rfl ⟨rfl, rfl, rfl, rfl, rfl⟩ rfl rfl rfl rfl rfl (by kernel_rfl) Try.func3 (by kernel_rfl)
    (of_decide_eq_true (by kernel_rfl)) (by unfold Func.isWrapper; first | (rw [if_pos (by decide +kernel)]; kernel_rfl) | (rw [if_neg (by decide +kernel)]; exact ⟨rfl, rfl⟩))
    (fun os started H enc _ => lifted os started H enc)

theorem proved : Rows.BoardTellsSaid := over
#print axioms proved
end Go.Proofs.Ytjmpafpampmncaa.boardTells
