/- The small case of layer 11. -/
import Derived.Test.YtcppblgoojjpgaaSame8
import Derived.Deep.RegionHeld3
import Derived.Deep.CutRange
namespace Go.Proofs.Ytcppblgoojjpgaa
open Go.ChangeShapes Go.WideShapes Go.ChangeAt Go.RowKit Go.Shelf
attribute [-go_sem] run_eql_struct run_neq_struct

abbrev zS : Obj := .cells #[.int .i64 0, .slice none 0 0, .int .i64 0, .int .i64 0] seT
abbrev zF : Obj := .cells #[.int .i64 0, .int .i64 0, .int .i64 0, .int .i64 0, .int .i64 0, .int .i64 0, .int .i64 0] flT
abbrev nO (u v s x : Int) : Obj := .cells #[.int .i64 u, .int .i64 v, .int .i64 s, .int .i64 x] noT
theorem obj_lt {W : World} {g : Nat} {o : Obj} (h : W.heap[g]? = some o) : g < W.heap.size := by
  rcases Nat.lt_or_ge g W.heap.size with h1 | h1
  · exact h1
  · rw [Array.getElem?_eq_none h1] at h; cases h
section
variable {w w1 w2 : World} {g : Nat} {o n : Obj}
theorem c1_1 (hb : Below ((w.alloc n).alloc o).drew.heap.size ((w.alloc n).alloc o).drew w1) : w1.heap[w.heap.size + 1]? = some o := by
  have h := row_kept (w := ((w.alloc n).alloc o).drew) (MapKept.heap_alloc (w.alloc n) o).1 hb (by simp)
  simpa using h
theorem c1_2 {p : Obj} (hb : Below (((w.alloc n).alloc o).alloc p).drew.heap.size (((w.alloc n).alloc o).alloc p).drew w1) : w1.heap[w.heap.size + 1]? = some o ∧ w1.heap[w.heap.size + 1 + 1]? = some p := by
  have h1 := (Below.heap_alloc ((w.alloc n).alloc o) p (w.alloc n).heap.size (by simp)).trans (MapKept.heap_alloc (w.alloc n) o).1
  have h := row_kept (w := (((w.alloc n).alloc o).alloc p).drew) h1 hb (by simp <;> omega)
  have h2 := row_kept (w := (((w.alloc n).alloc o).alloc p).drew) (MapKept.heap_alloc ((w.alloc n).alloc o) p).1 hb (by simp)
  exact ⟨by simpa using h, by simpa using h2⟩
theorem c2_1 (hb : Below (w1.alloc o).heap.size (w1.alloc o) w2) : w2.heap[w1.heap.size]? = some o := row_kept (MapKept.heap_alloc w1 o).1 hb (by simp)
theorem c2_2 {p : Obj} (hb : Below ((w1.alloc o).alloc p).heap.size ((w1.alloc o).alloc p) w2) : w2.heap[w1.heap.size]? = some o ∧ w2.heap[w1.heap.size + 1]? = some p := by
  have h1 := (Below.heap_alloc (w1.alloc o) p w1.heap.size (by simp)).trans (MapKept.heap_alloc w1 o).1
  have h := row_kept h1 hb (by simp <;> omega)
  have h2 := row_kept (MapKept.heap_alloc (w1.alloc o) p).1 hb (by simp)
  exact ⟨h, by simpa using h2⟩
theorem o_0 {p : Obj} (h : w1.heap[g]? = some p) (hb : Below w1.heap.size w1 w2) : w2.heap[g]? = some p := row_kept h hb (obj_lt h)
theorem o_1 {p : Obj} (h : w1.heap[g]? = some p) (hb : Below (w1.alloc o).heap.size (w1.alloc o) w2) : w2.heap[g]? = some p := row_kept ((Below.heap_alloc _ _ _ (obj_lt h)).trans h) hb (by have := obj_lt h; simp; omega)
theorem a_lift {p : Obj} (h : w1.heap[g]? = some o) : (w1.alloc p).heap[g]? = some o := (Below.heap_alloc _ _ _ (obj_lt h)).trans h
theorem a_new (w1 : World) (o : Obj) : (w1.alloc o).heap[w1.heap.size]? = some o := (MapKept.heap_alloc w1 o).1
theorem a_new2 (w1 : World) (o p : Obj) : ((w1.alloc o).alloc p).heap[w1.heap.size + 1]? = some p := by simpa using (MapKept.heap_alloc (w1.alloc o) p).1
end
theorem row_ne {W : World} {a b : Nat} {cs ds : Array Value} {t u : TypeId} (h1 : W.heap[a]? = some (.cells cs t)) (h2 : W.heap[b]? = some (.cells ds u)) (h : u ≠ t) : b ≠ a := fun e => by
  subst e
  rw [h1] at h2
  injection h2 with h2
  injection h2 with _ h3
  exact h h3.symm
theorem push1 (w : World) : Calls Try.prog 22 #[.agg #[.int .i64 1, .slice none 0 0, .int .i64 1, .int .i64 0], noteV 1 7 0 0, .int .i64 5] w fun e w' => ∃ A c, e = .returned (.tuple #[.agg #[.int .i64 2, .slice A 1 c, .int .i64 1, .int .i64 0], Fl.val ⟨1, 1, 7, 0, 0, 5, 1⟩, .bool true]) ∧ OwnF w.heap.size w' A 1 c [⟨1, 1, 7, 0, 0, 5, 1⟩] ∧ Below w.heap.size w w' :=
  push_room w 1 1 0 none 0 0 [] rfl (Or.inl rfl) (by decide) (by decide) (by decide) (by simp) 1 7 0 0 5 (r := 1) (by decide) (by decide)

abbrev seO (n : Int) (A : Option Addr) (k c : Nat) (ww cc : Int) : Obj := .cells #[.int .i64 n, .slice A k c, .int .i64 ww, .int .i64 cc] seT
abbrev flO (q u v s x a t : Int) : Obj := .cells #[.int .i64 q, .int .i64 u, .int .i64 v, .int .i64 s, .int .i64 x, .int .i64 a, .int .i64 t] flT
theorem Fls.setRow {W : World} {A : Option Addr} {l : List Fl} {g : Nat} {t : TypeId} {cs : Array Value} (h : Fls W A l) (hg : ∀ b off, A = some ⟨b, off, none⟩ → b ≠ g) : Fls (setRow W g t cs) A l := by
  rcases h with h | ⟨b, off, h1, h2, h3⟩
  · exact Or.inl h
  · refine Or.inr ⟨b, off, h1, by rw [setRow_size]; exact h2, fun i hi => ?_⟩
    rw [← h3 i hi]
    simp only [World.cell?, setRow_far (hg b off h1)]
theorem Fls.alloc2 {W : World} {A : Option Addr} {l : List Fl} (h : Fls W A l) (a b : Obj) : Fls ((W.alloc a).alloc b) A l := Nums.alloc (Nums.alloc h a) b
theorem below_alloc2 (W : World) (a b : Obj) : Below W.heap.size W ((W.alloc a).alloc b) := ((Below.refl _ _).alloc (Nat.le_refl _) _).alloc (by simp) _
/-- The two new blocks, written: what they hold, and that the flights still lie where they lay. -/
theorem fin2 {X : World} {g2 g3 base c : Nat} {A : Option Addr} (h2 : X.heap[g2]? = some zS) (h3 : X.heap[g3]? = some zF) (hO : OwnF base X A 1 c [⟨1, 1, 7, 0, 0, 5, 1⟩]) :
    (setRow (setRow X g2 seT #[.int .i64 2, .slice A 1 c, .int .i64 1, .int .i64 0]) g3 flT #[.int .i64 1, .int .i64 1, .int .i64 7, .int .i64 0, .int .i64 0, .int .i64 5, .int .i64 1]).heap[g2]? = some (seO 2 A 1 c 1 0) ∧
    (setRow (setRow X g2 seT #[.int .i64 2, .slice A 1 c, .int .i64 1, .int .i64 0]) g3 flT #[.int .i64 1, .int .i64 1, .int .i64 7, .int .i64 0, .int .i64 0, .int .i64 5, .int .i64 1]).heap[g3]? = some (flO 1 1 7 0 0 5 1) ∧
    Fls (setRow (setRow X g2 seT #[.int .i64 2, .slice A 1 c, .int .i64 1, .int .i64 0]) g3 flT #[.int .i64 1, .int .i64 1, .int .i64 7, .int .i64 0, .int .i64 0, .int .i64 5, .int .i64 1]) A [⟨1, 1, 7, 0, 0, 5, 1⟩] := by
  have hne : g3 ≠ g2 := row_ne h2 h3 (by decide)
  have l2 := obj_lt h2
  have l3 := obj_lt h3
  refine ⟨(setRow_far (fun e => hne e.symm)).trans (setRow_row l2), setRow_row (by rw [setRow_size]; exact l3), Fls.setRow (Fls.setRow hO.fls ?_) ?_⟩
  · intro b off e
    obtain ⟨g, cur, hA, hg, hh, hs, ht⟩ := hO.at0 (by decide)
    rw [hA] at e
    injection e with e
    injection e with e1 _
    subst e1
    exact row_ne h2 hh (by decide)
  · intro b off e e3
    obtain ⟨g, cur, hA, hg, hh, hs, ht⟩ := hO.at0 (by decide)
    rw [hA] at e
    injection e with e
    injection e with e1 _
    subst e1
    subst e3
    rw [h3] at hh
    injection hh with hh
    injection hh with hh _
    subst hh
    simp [flt, Fl.enc] at ht

/-- What is held: the note, and no world below is turned. -/
structure NH (w W : World) : Prop where
  note : W.heap[w.heap.size]? = some (nO 1 7 0 0)
  low : Below w.heap.size w W
theorem NH.keep {w W W' : World} (h : NH w W) (hb : Below W.heap.size W W') : NH w W' := ⟨row_kept h.note hb (row_lt h.note), h.low.trans (hb.mono h.low.size)⟩
theorem NH.alloc {w W : World} (h : NH w W) (o : Obj) : NH w (W.alloc o) := h.keep ((Below.refl _ _).alloc (Nat.le_refl _) o)
theorem NH.drew {w W : World} (h : NH w W) : NH w W.drew := ⟨h.note, h.low.drew⟩
abbrev S3 (w W : World) : Prop := (W.cell? ⟨w.heap.size, 0, none⟩ = some (.int .i64 1) ∧ W.cell? ⟨w.heap.size, 1, none⟩ = some (.int .i64 7) ∧ W.cell? ⟨w.heap.size, 2, none⟩ = some (.int .i64 0) ∧ W.cell? ⟨w.heap.size, 3, none⟩ = some (.int .i64 0)) ∧ NH w W
theorem NH.s3 {w W : World} (h : NH w W) : S3 w W := ⟨⟨cell_of_row _ _ 0 _ _ _ h.note, cell_of_row _ _ 1 _ _ _ h.note, cell_of_row _ _ 2 _ _ _ h.note, cell_of_row _ _ 3 _ _ _ h.note⟩, h⟩
theorem S3.call {w W W' : World} (h : S3 w W) (hb : Below W.heap.size W W') : S3 w W' := (h.2.keep hb).s3
theorem S3.alloc {w W : World} (h : S3 w W) (o : Obj) : S3 w (W.alloc o) := (h.2.keep ((Below.refl _ _).alloc (Nat.le_refl _) o)).s3
theorem S3.set {w W : World} (h : S3 w W) {g i : Nat} (v : Value) (ha : w.heap.size < g) : S3 w (W.setCell ⟨g, i, none⟩ v) :=
  NH.s3 ⟨(Below.heap_setCell _ _ _ _ (Nat.ne_of_lt ha)).trans h.2.note, below_set h.2.low (Nat.le_of_lt ha)⟩
theorem S3.row {w W : World} (h : S3 w W) {g : Nat} {t : TypeId} {cs : Array Value} (ha : w.heap.size < g) : S3 w (setRow W g t cs) :=
  NH.s3 ⟨(setRow_far (Nat.ne_of_lt ha)).trans h.2.note, setRow_below h.2.low (Nat.le_of_lt ha)⟩

theorem send_field2 (n : Int) (A : Option Addr) (k c : Nat) (ww cc : Int) (W : World) : (Instr.field seT (.agg #[.int .i64 n, .slice A k c, .int .i64 ww, .int .i64 cc]) 2).run Try.prog W = .ok (.int .i64 ww) W := by kernel_rfl

set_option maxRecDepth 10000 in
set_option maxHeartbeats 1000000 in
theorem small_any (w : World) : Calls Try.prog 11 #[] w fun e w' => e = .returned (.bool true) ∧ Below w.heap.size w w' := by
  have z0 := zero_send
  have z1 := zero_fl
  have H00 : NH w (w.alloc (nO 1 7 0 0)) := ⟨(MapKept.heap_alloc w _).1, (Below.refl _ _).alloc (Nat.le_refl _) _⟩
  have H0 : NH w ((w.alloc (nO 1 7 0 0)).drew) := ⟨(MapKept.heap_alloc w _).1, ((Below.refl _ _).alloc (Nat.le_refl _) _).drew⟩
  have H1 := Lib.hid (fun o : Obj => show NH w (((w.alloc (nO 1 7 0 0)).alloc o).drew) from (H00.alloc o).drew)
  have H2 := Lib.hid (fun o p : Obj => show NH w ((((w.alloc (nO 1 7 0 0)).alloc o).alloc p).drew) from ((H00.alloc o).alloc p).drew)
  go_enter Try.func11, Try.ntmps11
  go_wp2_with fail
  go_cut [2, 3, 4] from 19 to 25 (fun s2 s3 s4 wx => s4 = .bool true ∧ ∃ (b2 b3 : Nat) (A : Option Addr) (c : Nat), s2 = .pointer (some ⟨b2, 0, none⟩) ∧ s3 = .pointer (some ⟨b3, 0, none⟩) ∧ (wx.heap[b2]? = some (seO 2 A 1 c 1 0) ∧ wx.heap[b3]? = some (flO 1 1 7 0 0 5 1) ∧ Fls wx A [⟨1, 1, 7, 0, 0, 5, 1⟩]) ∧ NH w wx)
  case first =>
    go_region_held3 (fun W => S3 w W)
      (first | (with_reducible exact NH.s3 H0) | (with_reducible exact NH.s3 (H1.out _)) | (with_reducible exact NH.s3 (H2.out _ _)) | (with_reducible exact S3.call (by assumption) hb) | (with_reducible exact S3.alloc (by assumption) _) | (with_reducible exact S3.row (by assumption) (by omega)) | fail)
      (first
        | (go_at_call 27; refine (start_any _).mono ?_; rintro e w1 ⟨rfl, hb⟩; have hl1 := hb.size; (try simp at hl1); (try have r2 := c1_1 (o := zS) hb); (try have r3 := c1_1 (o := zF) hb); (try (have rr := c1_2 (o := zS) (p := zF) hb; obtain ⟨r2, r3⟩ := rr)); (try (have rr := c1_2 (o := zF) (p := zS) hb; obtain ⟨r3, r2⟩ := rr)))
        | (go_at_call 22; refine (push1 _).mono ?_; rintro e w2 ⟨A, c, rfl, hO, hb⟩; have hl2 := hb.size; (try simp at hl2); (try have q2 := c2_1 (o := zS) hb); (try have q3 := c2_1 (o := zF) hb); (try (have rr := c2_2 (o := zS) (p := zF) hb; obtain ⟨q2, q3⟩ := rr)); (try (have rr := c2_2 (o := zF) (p := zS) hb; obtain ⟨q3, q2⟩ := rr)); (try have q2 := o_0 r2 hb); (try have q3 := o_0 r3 hb); (try have q2 := o_1 r2 hb); (try have q3 := o_1 r3 hb); (first
          | (have hne := row_ne q2 q3 (by decide); have rr := rows2 q2 q3 hne; obtain ⟨s0, s1, x1, y1, x2, y2, s2, s3, x3, y3, ss1, x0, y0, x02, y02⟩ := rr)
          | (have v2 := a_lift (p := zF) q2; have v3 := a_new w2 zF; have hne := row_ne v2 v3 (by decide); have rr := rows2 v2 v3 hne; obtain ⟨s0, s1, x1, y1, x2, y2, s2, s3, x3, y3, ss1, x0, y0, x02, y02⟩ := rr)
          | (have v3 := a_lift (p := zS) q3; have v2 := a_new w2 zS; have hne := row_ne v2 v3 (by decide); have rr := rows2 v2 v3 hne; obtain ⟨s0, s1, x1, y1, x2, y2, s2, s3, x3, y3, ss1, x0, y0, x02, y02⟩ := rr)
          | (have v2 := a_lift (p := zF) (a_new w2 zS); have v3 := a_new2 w2 zS zF; have hne := row_ne v2 v3 (by decide); have rr := rows2 v2 v3 hne; obtain ⟨s0, s1, x1, y1, x2, y2, s2, s3, x3, y3, ss1, x0, y0, x02, y02⟩ := rr; have v4 := a_lift (p := zS) (a_new w2 zF); have v5 := a_new2 w2 zF zS; have hne' := row_ne v5 v4 (by decide); have rr := rows2 v5 v4 hne'; obtain ⟨ks0, ks1, kx1, ky1, kx2, ky2, ks2, ks3, kx3, ky3, kss1, kx0, ky0, kx02, ky02⟩ := rr))))
    all_goals
      go_wp2_with fail
      go_meet
      case rel =>
        refine ⟨rfl, _, _, A, c, rfl, rfl, ?_, (show S3 w _ by assumption).2⟩
        first
          | exact fin2 q2 q3 hO
          | exact fin2 v2 v3 (OwnR.alloc hO _)
          | exact fin2 v2 v3 (OwnR.alloc (OwnR.alloc hO _) _)
          | exact fin2 v5 v4 (OwnR.alloc (OwnR.alloc hO _) _)
  case rest =>
    obtain ⟨rfl, b2, b3, A, c, rfl, rfl, ⟨R2, R3, HF⟩, HN⟩ := hcut
    have R1 := HN.note
    have BW := HN.low
    clear HN H00 H0 H1 H2
    have hq0 : ∀ f ∈ [(⟨1, 1, 7, 0, 0, 5, 1⟩ : Fl)], 0 ≤ f.q ∧ f.q ≤ 1099511627776 := by simp
    have ha0 : ∀ f ∈ [(⟨1, 1, 7, 0, 0, 5, 1⟩ : Fl)], 0 ≤ f.a ∧ f.a ≤ 1099511627776 := by simp
    have Q0 := Lib.hid (And.intro hq0 ha0)
    clear hq0 ha0
    have K1 := row_cells R1
    have K2 := row_cells R2
    go_wp2_with fail
    -- no room: the second Push
    refine (push_full _ 2 1 0 A 1 c [⟨1, 1, 7, 0, 0, 5, 1⟩] rfl HF (by decide) (by decide) (by decide) Q0.out.1 1 7 0 0 5 (by decide)).mono ?_
    rintro e w3 ⟨A3, c3, rfl, -, hb⟩
    have R1 := row_kept R1 hb (row_lt R1)
    have R2 := row_kept R2 hb (row_lt R2)
    have R3 := row_kept R3 hb (row_lt R3)
    have HF := HF.below hb
    have BW := BW.trans (hb.mono BW.size)
    clear hb K1 K2
    have K2 := fun a b => row_cells (alloc2 R2 a b)
    go_wp2_with fail
    -- all is acknowledged
    refine (acked_ok _ 2 1 0 A 1 c [⟨1, 1, 7, 0, 0, 5, 1⟩] rfl (HF.alloc2 _ _) (by decide) (by decide) (by decide) 1 0 9 (by decide) (by decide) (by decide) Q0.out.2 (F := []) (kf := 0) (wf := 2) (cf := 0) (tk := 4) (by kernel_rfl) rfl (by kernel_rfl) (by kernel_rfl)).mono ?_
    rintro e w4 ⟨A4, c4, rfl, hO4, hb⟩
    have R1 := row_kept (alloc2 R1 _ _) hb (by have := row_lt R1; simp; omega)
    have R2 := row_kept (alloc2 R2 _ _) hb (by have := row_lt R2; simp; omega)
    have R3 := row_kept (alloc2 R3 _ _) hb (by have := row_lt R3; simp; omega)
    have HF := (HF.alloc2 _ _).below hb
    have BW := BW.trans ((below_alloc2 w3 _ _).trans (hb.mono (by simp <;> omega)) |>.mono BW.size)
    have R8 := a_new w4 (seO 2 A4 0 c4 2 0)
    have R1 := a_lift (p := seO 2 A4 0 c4 2 0) R1
    have R2 := a_lift (p := seO 2 A4 0 c4 2 0) R2
    have R3 := a_lift (p := seO 2 A4 0 c4 2 0) R3
    have HF := Nums.alloc HF (seO 2 A4 0 c4 2 0)
    have HF8 := Nums.alloc hO4.fls (seO 2 A4 0 c4 2 0)
    have BW := BW.alloc BW.size (seO 2 A4 0 c4 2 0)
    clear hb K2 hO4
    have K2 := row_cells R2
    go_wp2_with fail
    -- what was never sent is not acknowledged
    refine (acked_bad _ 2 1 0 A 1 c [⟨1, 1, 7, 0, 0, 5, 1⟩] rfl HF (by decide) 2 0 9 (by decide)).mono ?_
    rintro e w5 ⟨A5, c5, rfl, -, hb⟩
    have R1 := row_kept R1 hb (row_lt R1)
    have R2 := row_kept R2 hb (row_lt R2)
    have R3 := row_kept R3 hb (row_lt R3)
    have R8 := row_kept R8 hb (row_lt R8)
    have HF := HF.below hb
    have HF8 := Nums.below HF8 hb
    have BW := BW.trans (hb.mono BW.size)
    clear hb K2
    have K2 := fun a => row_cells (a_lift (p := a) R2)
    go_wp2_with fail
    -- sent once more
    refine (resend_one _ 2 1 0 A 1 c [⟨1, 1, 7, 0, 0, 5, 1⟩] rfl (Nums.alloc HF _) (by decide) 1 8 0 (by decide) (by kernel_rfl) (q := 1) (u := 1) (v := 7) (s := 0) (x := 0) (a := 5) (t := 1) (m := 2) rfl (by decide) (by decide)).mono ?_
    rintro e w6 ⟨A6, c6, rfl, hO6, hb⟩
    have R1 := row_kept (a_lift R1) hb (row_lt (a_lift R1))
    have R2 := row_kept (a_lift R2) hb (row_lt (a_lift R2))
    have R3 := row_kept (a_lift R3) hb (row_lt (a_lift R3))
    have R8 := row_kept (a_lift R8) hb (row_lt (a_lift R8))
    have HF := Fls.below (Nums.alloc HF _) hb
    have HF8 := Nums.below (Nums.alloc HF8 _) hb
    have BW := (BW.alloc BW.size _).trans (hb.mono (BW.alloc BW.size _).size)
    have R12 := a_lift (p := flO 1 1 7 0 0 8 2) (a_new w6 (seO 2 A6 1 c6 1 0))
    have R13 := a_new2 w6 (seO 2 A6 1 c6 1 0) (flO 1 1 7 0 0 8 2)
    have R1 := alloc2 R1 (seO 2 A6 1 c6 1 0) (flO 1 1 7 0 0 8 2)
    have R2 := alloc2 R2 (seO 2 A6 1 c6 1 0) (flO 1 1 7 0 0 8 2)
    have R3 := alloc2 R3 (seO 2 A6 1 c6 1 0) (flO 1 1 7 0 0 8 2)
    have R8 := alloc2 R8 (seO 2 A6 1 c6 1 0) (flO 1 1 7 0 0 8 2)
    have HF := HF.alloc2 (seO 2 A6 1 c6 1 0) (flO 1 1 7 0 0 8 2)
    have HF8 := Fls.alloc2 HF8 (seO 2 A6 1 c6 1 0) (flO 1 1 7 0 0 8 2)
    have HF6 := Fls.alloc2 hO6.fls (seO 2 A6 1 c6 1 0) (flO 1 1 7 0 0 8 2)
    have BW := BW.trans ((below_alloc2 w6 (seO 2 A6 1 c6 1 0) (flO 1 1 7 0 0 8 2)).mono BW.size)
    clear hb K2 hO6
    have K12 := row_cells R12
    go_wp2_with fail
    -- of what was sent again no time is told
    refine (acked_ok _ 2 1 0 A6 1 c6 [⟨1, 1, 7, 0, 0, 8, 2⟩] rfl HF6 (by decide) (by decide) (by decide) 1 0 9 (by decide) (by decide) (by decide) (by simp) (F := []) (kf := 0) (wf := 2) (cf := 0) (tk := -1) (by kernel_rfl) rfl (by kernel_rfl) (by kernel_rfl)).mono ?_
    rintro e w7 ⟨A7, c7, rfl, -, hb⟩
    have R1 := row_kept R1 hb (row_lt R1)
    have R2 := row_kept R2 hb (row_lt R2)
    have R3 := row_kept R3 hb (row_lt R3)
    have R8 := row_kept R8 hb (row_lt R8)
    have R13 := row_kept R13 hb (row_lt R13)
    have HF := HF.below hb
    have HF8 := Nums.below HF8 hb
    have BW := BW.trans (hb.mono BW.size)
    clear hb K12 HF6 R12
    have K2 := fun a => row_cells (a_lift (p := a) R2)
    go_wp2_with fail
    refine (void_any _ 2 1 0 A 1 c [⟨1, 1, 7, 0, 0, 5, 1⟩] rfl (Nums.alloc HF _) (by decide) 1 (L := [⟨1, 0, 0, 0, 0, 5, 1⟩]) (by kernel_rfl)).mono ?_
    rintro e w8 ⟨A8, c8, rfl, hO8, hb⟩
    have R1 := row_kept (a_lift R1) hb (row_lt (a_lift R1))
    have R2 := row_kept (a_lift R2) hb (row_lt (a_lift R2))
    have R3 := row_kept (a_lift R3) hb (row_lt (a_lift R3))
    have R8 := row_kept (a_lift R8) hb (row_lt (a_lift R8))
    have R13 := row_kept (a_lift R13) hb (row_lt (a_lift R13))
    have HF := Fls.below (Nums.alloc HF _) hb
    have HF8 := Nums.below (Nums.alloc HF8 _) hb
    have BW := (BW.alloc BW.size _).trans (hb.mono (BW.alloc BW.size _).size)
    have R17 := a_new w8 (seO 2 A8 1 c8 1 0)
    have R1 := a_lift (p := seO 2 A8 1 c8 1 0) R1
    have R2 := a_lift (p := seO 2 A8 1 c8 1 0) R2
    have R3 := a_lift (p := seO 2 A8 1 c8 1 0) R3
    have R8 := a_lift (p := seO 2 A8 1 c8 1 0) R8
    have R13 := a_lift (p := seO 2 A8 1 c8 1 0) R13
    have HF := Nums.alloc HF (seO 2 A8 1 c8 1 0)
    have HF8 := Nums.alloc HF8 (seO 2 A8 1 c8 1 0)
    have HF17 := Nums.alloc hO8.fls (seO 2 A8 1 c8 1 0)
    have BW := BW.alloc BW.size (seO 2 A8 1 c8 1 0)
    clear hb K2 hO8
    have K1 := row_cells R1
    have K3 := row_cells R3
    have K2 := row_cells R2
    have K17 := row_cells R17
    have hfe : ∀ W : World, (binOp .eql flT (.agg #[.int .i64 1, .int .i64 1, .int .i64 7, .int .i64 0, .int .i64 0, .int .i64 5, .int .i64 1]) (.agg #[.int .i64 1, .int .i64 1, .int .i64 7, .int .i64 0, .int .i64 0, .int .i64 5, .int .i64 1])).run Try.prog W = .ok (.bool true) W := fun W => by
      have := fl_eql ⟨1, 1, 7, 0, 0, 5, 1⟩ ⟨1, 1, 7, 0, 0, 5, 1⟩ W
      simpa using this
    have hne : ∀ W : World, (binOp .eql noT (.agg #[.int .i64 0, .int .i64 0, .int .i64 0, .int .i64 0]) (.agg #[.int .i64 0, .int .i64 0, .int .i64 0, .int .i64 0])).run Try.prog W = .ok (.bool true) W := fun W => by
      have := no_eql 0 0 0 0 0 0 0 0 W
      simpa using this
    go_wp2_with fail
    refine (room_to _ 2 1 0 A 1 c [⟨1, 1, 7, 0, 0, 5, 1⟩] rfl HF (by decide) (by decide) (by decide) Q0.out.1 (v := 0) (by decide)).mono ?_
    rintro e w9 ⟨rfl, hb⟩
    clear K1 K2 K3 K17 hfe R1 R3
    have R2 := row_kept R2 hb (row_lt R2)
    have R8 := row_kept R8 hb (row_lt R8)
    have R13 := row_kept R13 hb (row_lt R13)
    have R17 := row_kept R17 hb (row_lt R17)
    have HF := Nums.below HF hb
    have HF8 := Nums.below HF8 hb
    have HF17 := Nums.below HF17 hb
    have BW := BW.trans (hb.mono BW.size)
    clear hb
    have K8 := row_cells R8
    go_wp2_with fail
    refine (room_to _ 2 2 0 A4 0 c4 [] rfl HF8 (by decide) (by decide) (by decide) (by simp) (v := 2) (by decide)).mono ?_
    rintro e w10 ⟨rfl, hb⟩
    clear K8
    have R2 := row_kept R2 hb (row_lt R2)
    have R8 := row_kept R8 hb (row_lt R8)
    have R13 := row_kept R13 hb (row_lt R13)
    have R17 := row_kept R17 hb (row_lt R17)
    have HF := Nums.below HF hb
    have HF8 := Nums.below HF8 hb
    have HF17 := Nums.below HF17 hb
    have BW := BW.trans (hb.mono BW.size)
    clear hb
    have K8 := row_cells R8
    have K13 := row_cells R13
    have K2 := row_cells R2
    obtain ⟨gb, goff, hA8, hgb, -, d1, d2, d3, d4, -, -⟩ := Fls.at HF17 (i := 0) (by simp)
    rw [hA8] at R17
    clear hA8
    have K17 := row_cells R17
    simp only [List.getD, List.getElem?_cons_zero, Option.getD_some, Nat.zero_mul, Nat.add_zero] at d1 d2 d3 d4
    go_wp2_with fail
    refine (due_to _ 2 1 0 A 1 c [⟨1, 1, 7, 0, 0, 5, 1⟩] rfl HF (by decide) 9 4 (by decide) Q0.out.2 (ds := [1]) (by kernel_rfl)).mono ?_
    rintro e w11 ⟨A11, c11, rfl, hO11, hb⟩
    clear K8 K13 K17 K2 hne d1 d2 d3 d4 R13 R17 HF17
    have R2 := row_kept R2 hb (row_lt R2)
    have R8 := row_kept R8 hb (row_lt R8)
    have HF := Nums.below HF hb
    have HF8 := Nums.below HF8 hb
    have BW := BW.trans (hb.mono BW.size)
    clear hb
    go_wp2_with fail
    refine (same_any _ A11 1 c11 [1] rfl (Nums.alloc (OwnN.nums hO11) _) _ 1 1 [1] rfl (Nums.new _ [1] _ #[.int .i64 1] _ rfl rfl) (by decide) (by decide)).mono ?_
    rintro e w12 ⟨rfl, q12, rfl⟩
    have R2 := a_lift (p := .cells #[.int .i64 1] 3) R2
    have R8 := a_lift (p := .cells #[.int .i64 1] 3) R8
    have HF := Nums.alloc HF (.cells #[.int .i64 1] 3)
    have HF8 := Nums.alloc HF8 (.cells #[.int .i64 1] 3)
    have BW := below_drewN (BW.alloc BW.size (.cells #[.int .i64 1] 3)) q12
    clear hO11
    obtain ⟨w13, hw13⟩ : ∃ W, (w11.alloc (.cells #[.int .i64 1] 3)).drewN q12 = W := ⟨_, rfl⟩
    have R2 : w13.heap[b2]? = some (seO 2 A 1 c 1 0) := by rw [← hw13]; exact R2
    have R8 : w13.heap[w4.heap.size]? = some (seO 2 A4 0 c4 2 0) := by rw [← hw13]; exact R8
    have HF : Fls w13 A [⟨1, 1, 7, 0, 0, 5, 1⟩] := by rw [← hw13]; exact HF
    have HF8 : Fls w13 A4 [] := by rw [← hw13]; exact HF8
    rw [hw13] at BW ⊢
    clear hw13
    have K2 := row_cells R2
    go_wp2_with fail
    refine (due_to _ 2 1 0 A 1 c [⟨1, 1, 7, 0, 0, 5, 1⟩] rfl HF (by decide) 8 4 (by decide) Q0.out.2 (ds := []) (by kernel_rfl)).mono ?_
    rintro e w14 ⟨A14, c14, rfl, -, hb⟩
    clear K2
    have R2 := row_kept R2 hb (row_lt R2)
    have R8 := row_kept R8 hb (row_lt R8)
    have HF := Nums.below HF hb
    have HF8 := Nums.below HF8 hb
    have BW := BW.trans (hb.mono BW.size)
    clear hb
    have K8 := row_cells R8
    have hfd := send_field2
    go_wp2_with fail
    refine (lost_any _ 2 2 0 A4 0 c4 [] rfl HF8 (by decide) (by decide) (v := 1) (by decide)).mono ?_
    rintro e w15 ⟨A15, c15, rfl, -, hb⟩
    clear K8
    have R2 := row_kept R2 hb (row_lt R2)
    have HF := Nums.below HF hb
    have BW := BW.trans (hb.mono BW.size)
    clear hb
    have K2 := row_cells R2
    go_wp2_with fail
    refine (right_to _ 2 1 0 A 1 c [⟨1, 1, 7, 0, 0, 5, 1⟩] rfl HF (by decide) (v := true) (by kernel_rfl)).mono ?_
    rintro e w16 ⟨rfl, hb⟩
    clear K2
    have BW := BW.trans (hb.mono BW.size)
    clear hb
    go_wp2_with fail
    refine (right_to _ 0 0 0 none 0 0 [] rfl (Or.inl rfl) (by decide) (v := false) (by kernel_rfl)).mono ?_
    rintro e w17 ⟨rfl, hb⟩
    have BW := BW.trans (hb.mono BW.size)
    clear hb
    go_wp2_with fail
    go_ret
    exact ⟨rfl, BW⟩
end Go.Proofs.Ytcppblgoojjpgaa
