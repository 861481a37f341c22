/- The small case of layer 12. -/
import Derived.Test.YtiecebncnflpiaaTickTo
import Derived.Deep.RegionHeld3
import Derived.Deep.CutRange
import Derived.Test.YtiecebncnflpiaaTail2
namespace Go.Proofs.Ytiecebncnflpiaa
open Go.ChangeShapes Go.WideShapes Go.ChangeAt Go.RowKit Go.Shelf
attribute [-go_sem] run_eql_struct run_neq_struct

/-- The two new blocks, written: what they hold, and that the flights still lie where they lay. -/
theorem fin2 {X : World} {g2 g3 base c : Nat} {A : Option Addr} (h2 : X.heap[g2]? = some chZ) (h3 : X.heap[g3]? = some flZ) (hO : OwnF base X A 1 c [⟨1, 1, 7, 0, 0, 0, 1⟩]) :
    (setRow (setRow X g2 chT #[.int .i64 2, .slice A 1 c, .int .i64 1, .int .i64 0, .int .i64 0, .int .i64 0, .int .i64 8, .int .i64 0, .bool false]) g3 flT #[.int .i64 1, .int .i64 1, .int .i64 7, .int .i64 0, .int .i64 0, .int .i64 0, .int .i64 1]).heap[g2]? = some (chO 2 A 1 c 1 0 0 0 8 0 false) ∧
    (setRow (setRow X g2 chT #[.int .i64 2, .slice A 1 c, .int .i64 1, .int .i64 0, .int .i64 0, .int .i64 0, .int .i64 8, .int .i64 0, .bool false]) g3 flT #[.int .i64 1, .int .i64 1, .int .i64 7, .int .i64 0, .int .i64 0, .int .i64 0, .int .i64 1]).heap[g3]? = some (flO 1 1 7 0 0 0 1) ∧
    Fls (setRow (setRow X g2 chT #[.int .i64 2, .slice A 1 c, .int .i64 1, .int .i64 0, .int .i64 0, .int .i64 0, .int .i64 8, .int .i64 0, .bool false]) g3 flT #[.int .i64 1, .int .i64 1, .int .i64 7, .int .i64 0, .int .i64 0, .int .i64 0, .int .i64 1]) A [⟨1, 1, 7, 0, 0, 0, 1⟩] := by
  have hne : g3 ≠ g2 := row_ne h2 h3 (by decide)
  have l2 := obj_lt h2
  have l3 := obj_lt h3
  refine ⟨(setRow_far (fun e => hne e.symm)).trans (setRow_row l2), setRow_row (by rw [setRow_size]; exact l3), Fls.setRow (Fls.setRow hO.fls ?_) ?_⟩
  · intro b off e
    obtain ⟨g, cur, hA, hg, hh, hs, ht⟩ := hO.at0 (by decide)
    rw [hA] at e
    injection e with e
    injection e with e1 _
    subst e1
    exact row_ne h2 hh (by decide)
  · intro b off e e3
    obtain ⟨g, cur, hA, hg, hh, hs, ht⟩ := hO.at0 (by decide)
    rw [hA] at e
    injection e with e
    injection e with e1 _
    subst e1
    subst e3
    rw [h3] at hh
    injection hh with hh
    injection hh with hh _
    subst hh
    simp [flt, Fl.enc] at ht

theorem push1 (w : World) : Calls Try.prog 19 #[chV 1 none 0 0 1 0 0 0 8 0 false, noteV 1 7 0 0, .int .i64 0] w fun e w' => ∃ A c, e = .returned (.tuple #[chV 2 A 1 c 1 0 0 0 8 0 false, Fl.val ⟨1, 1, 7, 0, 0, 0, 1⟩, .bool true]) ∧ OwnF w.heap.size w' A 1 c [⟨1, 1, 7, 0, 0, 0, 1⟩] ∧ Below w.heap.size w w' :=
  chpush_to (n := 1) (l := []) (ww := 1) (cc := 0) (k := 0) (by kernel_rfl) rfl (Or.inl rfl) (by kernel_rfl) rfl
/-- What is held: the note, and no world below is turned. -/
structure NH (w W : World) : Prop where
  note : W.heap[w.heap.size]? = some (nO 1 7 0 0)
  low : Below w.heap.size w W
theorem NH.keep {w W W' : World} (h : NH w W) (hb : Below W.heap.size W W') : NH w W' := ⟨row_kept h.note hb (row_lt h.note), h.low.trans (hb.mono h.low.size)⟩
theorem NH.alloc {w W : World} (h : NH w W) (o : Obj) : NH w (W.alloc o) := h.keep ((Below.refl _ _).alloc (Nat.le_refl _) o)
theorem NH.drew {w W : World} (h : NH w W) : NH w W.drew := ⟨h.note, h.low.drew⟩
abbrev S3 (w W : World) : Prop := (W.cell? ⟨w.heap.size, 0, none⟩ = some (.int .i64 1) ∧ W.cell? ⟨w.heap.size, 1, none⟩ = some (.int .i64 7) ∧ W.cell? ⟨w.heap.size, 2, none⟩ = some (.int .i64 0) ∧ W.cell? ⟨w.heap.size, 3, none⟩ = some (.int .i64 0)) ∧ NH w W
theorem NH.s3 {w W : World} (h : NH w W) : S3 w W := ⟨⟨cell_of_row _ _ 0 _ _ _ h.note, cell_of_row _ _ 1 _ _ _ h.note, cell_of_row _ _ 2 _ _ _ h.note, cell_of_row _ _ 3 _ _ _ h.note⟩, h⟩
theorem S3.call {w W W' : World} (h : S3 w W) (hb : Below W.heap.size W W') : S3 w W' := (h.2.keep hb).s3
theorem S3.alloc {w W : World} (h : S3 w W) (o : Obj) : S3 w (W.alloc o) := (h.2.keep ((Below.refl _ _).alloc (Nat.le_refl _) o)).s3
theorem S3.set {w W : World} (h : S3 w W) {g i : Nat} (v : Value) (ha : w.heap.size < g) : S3 w (W.setCell ⟨g, i, none⟩ v) :=
  NH.s3 ⟨(Below.heap_setCell _ _ _ _ (Nat.ne_of_lt ha)).trans h.2.note, below_set h.2.low (Nat.le_of_lt ha)⟩
theorem S3.row {w W : World} (h : S3 w W) {g : Nat} {t : TypeId} {cs : Array Value} (ha : w.heap.size < g) : S3 w (setRow W g t cs) :=
  NH.s3 ⟨(setRow_far (Nat.ne_of_lt ha)).trans h.2.note, setRow_below h.2.low (Nat.le_of_lt ha)⟩

set_option maxRecDepth 10000 in
set_option maxHeartbeats 1000000 in
theorem small_any (w : World) : Calls Try.prog 9 #[] w fun e w' => e = .returned (.bool true) ∧ Below w.heap.size w w' := by
  have z0 := zero_chan
  have z1 := zero_fl
  have H00 : NH w (w.alloc (nO 1 7 0 0)) := ⟨(MapKept.heap_alloc w _).1, (Below.refl _ _).alloc (Nat.le_refl _) _⟩
  have H0 : NH w ((w.alloc (nO 1 7 0 0)).drew) := ⟨(MapKept.heap_alloc w _).1, ((Below.refl _ _).alloc (Nat.le_refl _) _).drew⟩
  have H1 := Lib.hid (fun o : Obj => show NH w (((w.alloc (nO 1 7 0 0)).alloc o).drew) from (H00.alloc o).drew)
  have H2 := Lib.hid (fun o p : Obj => show NH w ((((w.alloc (nO 1 7 0 0)).alloc o).alloc p).drew) from ((H00.alloc o).alloc p).drew)
  go_enter Try.func9, Try.ntmps9
  go_wp2_with fail
  go_cut [2, 3, 4] from 13 to 19 (fun s2 s3 s4 wx => s4 = .bool true ∧ ∃ (b2 b3 : Nat) (A : Option Addr) (c : Nat), s2 = .pointer (some ⟨b2, 0, none⟩) ∧ s3 = .pointer (some ⟨b3, 0, none⟩) ∧ (wx.heap[b2]? = some (chO 2 A 1 c 1 0 0 0 8 0 false) ∧ wx.heap[b3]? = some (flO 1 1 7 0 0 0 1) ∧ Fls wx A [⟨1, 1, 7, 0, 0, 0, 1⟩]) ∧ NH w wx)
  case first =>
    go_region_held3 (fun W => S3 w W)
      (first | (with_reducible exact NH.s3 H0) | (with_reducible exact NH.s3 (H1.out _)) | (with_reducible exact NH.s3 (H2.out _ _)) | (with_reducible exact S3.call (by assumption) hb) | (with_reducible exact S3.alloc (by assumption) _) | (with_reducible exact S3.row (by assumption) (by omega)) | fail)
      (first
        | (go_at_call 23; refine (chstart_any _).mono ?_; rintro e w1 ⟨rfl, hb⟩; have hl1 := hb.size; (try simp at hl1); (try have r2 := c1_1 (o := chZ) hb); (try have r3 := c1_1 (o := flZ) hb); (try (have rr := c1_2 (o := chZ) (p := flZ) hb; obtain ⟨r2, r3⟩ := rr)); (try (have rr := c1_2 (o := flZ) (p := chZ) hb; obtain ⟨r3, r2⟩ := rr)))
        | (go_at_call 19; refine (push1 _).mono ?_; rintro e w2 ⟨A, c, rfl, hO, hb⟩; have hl2 := hb.size; (try simp at hl2); (try have q2 := c2_1 (o := chZ) hb); (try have q3 := c2_1 (o := flZ) hb); (try (have rr := c2_2 (o := chZ) (p := flZ) hb; obtain ⟨q2, q3⟩ := rr)); (try (have rr := c2_2 (o := flZ) (p := chZ) hb; obtain ⟨q3, q2⟩ := rr)); (try have q2 := o_0 r2 hb); (try have q3 := o_0 r3 hb); (try have q2 := o_1 r2 hb); (try have q3 := o_1 r3 hb); (first
          | (have hne := row_ne q2 q3 (by decide); have rr := rows2 q2 q3 hne; obtain ⟨s0, s1, x1, y1, x2, y2, s2, s3, x3, y3, ss1, x0, y0, x02, y02⟩ := rr)
          | (have v2 := a_lift (p := flZ) q2; have v3 := a_new w2 flZ; have hne := row_ne v2 v3 (by decide); have rr := rows2 v2 v3 hne; obtain ⟨s0, s1, x1, y1, x2, y2, s2, s3, x3, y3, ss1, x0, y0, x02, y02⟩ := rr)
          | (have v3 := a_lift (p := chZ) q3; have v2 := a_new w2 chZ; have hne := row_ne v2 v3 (by decide); have rr := rows2 v2 v3 hne; obtain ⟨s0, s1, x1, y1, x2, y2, s2, s3, x3, y3, ss1, x0, y0, x02, y02⟩ := rr)
          | (have v2 := a_lift (p := flZ) (a_new w2 chZ); have v3 := a_new2 w2 chZ flZ; have hne := row_ne v2 v3 (by decide); have rr := rows2 v2 v3 hne; obtain ⟨s0, s1, x1, y1, x2, y2, s2, s3, x3, y3, ss1, x0, y0, x02, y02⟩ := rr; have v4 := a_lift (p := chZ) (a_new w2 flZ); have v5 := a_new2 w2 flZ chZ; have hne' := row_ne v5 v4 (by decide); have rr := rows2 v5 v4 hne'; obtain ⟨ks0, ks1, kx1, ky1, kx2, ky2, ks2, ks3, kx3, ky3, kss1, kx0, ky0, kx02, ky02⟩ := rr))))
    all_goals
      go_wp2_with fail
      go_meet
      case rel =>
        refine ⟨rfl, _, _, A, c, rfl, rfl, ?_, (show S3 w _ by assumption).2⟩
        first
          | exact fin2 q2 q3 hO
          | exact fin2 v2 v3 (OwnR.alloc hO _)
          | exact fin2 v2 v3 (OwnR.alloc (OwnR.alloc hO _) _)
          | exact fin2 v5 v4 (OwnR.alloc (OwnR.alloc hO _) _)
  case rest =>
    obtain ⟨rfl, b2, b3, A, c, rfl, rfl, ⟨R2, R3, HF⟩, HN⟩ := hcut
    have R1 := HN.note
    have BW := HN.low
    clear HN H00 H0 H1 H2
    have HF : Fls wc A [⟨1, 1, 7, 0, 0, 0, 1⟩] := HF
    have HR := Lib.hid (show Sd.right ⟨2, [⟨1, 1, 7, 0, 0, 0, 1⟩], 1, 0⟩ = true by kernel_rfl)
    have K2 := row_cells R2
    go_wp2_with fail
    refine (tick_to (n' := 2) (L := [⟨1, 1, 7, 0, 0, 0, 1⟩]) (ww' := 1) (cc' := 0) (s' := 0) (v' := 0) (r' := 8) (f' := 0) (h' := false) (G := []) (m := 0) (k' := 1) HR.out (by kernel_rfl) rfl HF (by decide) (by kernel_rfl) rfl rfl).mono ?_
    rintro e w3 ⟨A3, c3, B3, d3, rfl, ⟨hO3, -⟩, hb⟩
    clear K2
    have HF3 := OwnF.fls hO3
    have R1 := row_kept R1 hb (row_lt R1)
    have R2 := row_kept R2 hb (row_lt R2)
    have R3 := row_kept R3 hb (row_lt R3)
    have HF := Fls.below HF hb
    have BW := BW.trans (hb.mono BW.size)
    clear hb
    have R1 := a_lift (p := chO 2 A3 1 c3 1 0 0 0 8 0 false) R1
    have R2 := a_lift (p := chO 2 A3 1 c3 1 0 0 0 8 0 false) R2
    have R3 := a_lift (p := chO 2 A3 1 c3 1 0 0 0 8 0 false) R3
    have HF : Fls _ _ _ := Nums.alloc HF (chO 2 A3 1 c3 1 0 0 0 8 0 false)
    have HF3 : Fls _ _ _ := Nums.alloc HF3 (chO 2 A3 1 c3 1 0 0 0 8 0 false)
    have R5 := a_new w3 (chO 2 A3 1 c3 1 0 0 0 8 0 false)
    have BW := BW.alloc BW.size (chO 2 A3 1 c3 1 0 0 0 8 0 false)
    clear hO3
    have K2 := row_cells R2
    go_wp2_with fail
    refine (tick_to (n' := 2) (L := [⟨1, 1, 7, 0, 0, 8, 2⟩]) (ww' := 1) (cc' := 0) (s' := 0) (v' := 0) (r' := 16) (f' := 1) (h' := false) (G := [⟨1, 1, 7, 0, 0, 8, 2⟩]) (m := 1) (k' := 1) HR.out (by kernel_rfl) rfl HF (by decide) (by kernel_rfl) rfl rfl).mono ?_
    rintro e w4 ⟨A4, c4, B4, d4, rfl, ⟨-, hO4⟩, hb⟩
    clear K2
    have HF4 := OwnF.fls hO4
    have R1 := row_kept R1 hb (row_lt R1)
    have R2 := row_kept R2 hb (row_lt R2)
    have R3 := row_kept R3 hb (row_lt R3)
    have R5 := row_kept R5 hb (row_lt R5)
    have HF := Fls.below HF hb
    have HF3 := Fls.below HF3 hb
    have BW := BW.trans (hb.mono BW.size)
    clear hb
    have R1 := a_lift (p := chO 2 A4 1 c4 1 0 0 0 16 1 false) R1
    have R2 := a_lift (p := chO 2 A4 1 c4 1 0 0 0 16 1 false) R2
    have R3 := a_lift (p := chO 2 A4 1 c4 1 0 0 0 16 1 false) R3
    have R5 := a_lift (p := chO 2 A4 1 c4 1 0 0 0 16 1 false) R5
    have HF : Fls _ _ _ := Nums.alloc HF (chO 2 A4 1 c4 1 0 0 0 16 1 false)
    have HF3 : Fls _ _ _ := Nums.alloc HF3 (chO 2 A4 1 c4 1 0 0 0 16 1 false)
    have HF4 : Fls _ _ _ := Nums.alloc HF4 (chO 2 A4 1 c4 1 0 0 0 16 1 false)
    have R7 := a_new w4 (chO 2 A4 1 c4 1 0 0 0 16 1 false)
    have BW := BW.alloc BW.size (chO 2 A4 1 c4 1 0 0 0 16 1 false)
    clear hO4
    have K2 := row_cells R2
    go_wp2_with fail
    refine (tick_to (n' := 2) (L := [⟨1, 1, 7, 0, 0, 0, 1⟩]) (ww' := 1) (cc' := 0) (s' := 0) (v' := 0) (r' := 8) (f' := 0) (h' := false) (G := []) (m := 0) (k' := 1) HR.out (by kernel_rfl) rfl HF (by decide) (by kernel_rfl) rfl rfl).mono ?_
    rintro e w5 ⟨A5, c5, B5, d5, rfl, -, hb⟩
    clear K2
    have R1 := row_kept R1 hb (row_lt R1)
    have R2 := row_kept R2 hb (row_lt R2)
    have R3 := row_kept R3 hb (row_lt R3)
    have R5 := row_kept R5 hb (row_lt R5)
    have R7 := row_kept R7 hb (row_lt R7)
    have HF := Fls.below HF hb
    have HF3 := Fls.below HF3 hb
    have HF4 := Fls.below HF4 hb
    have BW := BW.trans (hb.mono BW.size)
    clear hb
    have R1 := a_lift (p := chO 2 A5 1 c5 1 0 0 0 8 0 false) R1
    have R2 := a_lift (p := chO 2 A5 1 c5 1 0 0 0 8 0 false) R2
    have R3 := a_lift (p := chO 2 A5 1 c5 1 0 0 0 8 0 false) R3
    have R5 := a_lift (p := chO 2 A5 1 c5 1 0 0 0 8 0 false) R5
    have R7 := a_lift (p := chO 2 A5 1 c5 1 0 0 0 8 0 false) R7
    have HF : Fls _ _ _ := Nums.alloc HF (chO 2 A5 1 c5 1 0 0 0 8 0 false)
    have HF3 : Fls _ _ _ := Nums.alloc HF3 (chO 2 A5 1 c5 1 0 0 0 8 0 false)
    have HF4 : Fls _ _ _ := Nums.alloc HF4 (chO 2 A5 1 c5 1 0 0 0 8 0 false)
    have R9 := a_new w5 (chO 2 A5 1 c5 1 0 0 0 8 0 false)
    have BW := BW.alloc BW.size (chO 2 A5 1 c5 1 0 0 0 8 0 false)
    have K2 := row_cells R2
    go_wp2_with fail
    refine (chack_to (n' := 2) (L := []) (ww' := 2) (cc' := 0) (s' := 24) (v' := 6) (r' := 9) (f' := 0) (h' := true) (tk := 3) (k' := 0) HR.out rfl HF (by decide) (by kernel_rfl) rfl (by kernel_rfl)).mono ?_
    rintro e w6 ⟨A6, c6, rfl, hO6, hb⟩
    clear K2 R9
    have HF6 := OwnF.fls hO6
    have R1 := row_kept R1 hb (row_lt R1)
    have R2 := row_kept R2 hb (row_lt R2)
    have R3 := row_kept R3 hb (row_lt R3)
    have R5 := row_kept R5 hb (row_lt R5)
    have R7 := row_kept R7 hb (row_lt R7)
    have HF := Fls.below HF hb
    have HF3 := Fls.below HF3 hb
    have HF4 := Fls.below HF4 hb
    have BW := BW.trans (hb.mono BW.size)
    clear hb
    have R1 := a_lift (p := chO 2 A6 0 c6 2 0 24 6 9 0 true) R1
    have R2 := a_lift (p := chO 2 A6 0 c6 2 0 24 6 9 0 true) R2
    have R3 := a_lift (p := chO 2 A6 0 c6 2 0 24 6 9 0 true) R3
    have R5 := a_lift (p := chO 2 A6 0 c6 2 0 24 6 9 0 true) R5
    have R7 := a_lift (p := chO 2 A6 0 c6 2 0 24 6 9 0 true) R7
    have HF : Fls _ _ _ := Nums.alloc HF (chO 2 A6 0 c6 2 0 24 6 9 0 true)
    have HF3 : Fls _ _ _ := Nums.alloc HF3 (chO 2 A6 0 c6 2 0 24 6 9 0 true)
    have HF4 : Fls _ _ _ := Nums.alloc HF4 (chO 2 A6 0 c6 2 0 24 6 9 0 true)
    have HF6 : Fls _ _ _ := Nums.alloc HF6 (chO 2 A6 0 c6 2 0 24 6 9 0 true)
    have R11 := a_new w6 (chO 2 A6 0 c6 2 0 24 6 9 0 true)
    have BW := BW.alloc BW.size (chO 2 A6 0 c6 2 0 24 6 9 0 true)
    clear hO6
    obtain ⟨W, hW⟩ : ∃ W, w6.alloc (chO 2 A6 0 c6 2 0 24 6 9 0 true) = W := ⟨_, rfl⟩
    rw [hW] at R1 R2 R3 R5 R7 R11 HF HF3 HF4 HF6 BW
    go_wp2_with fail
    clear hW
    obtain ⟨gb, goff, rfl, hgb, -, -, -, -, -, -, -⟩ := Fls.at HF4 (i := 0) (by simp)
    have U4 : ∀ (u : Over W.heap.size W), u.val.cell? ⟨gb, goff, none⟩ = some (.int .i64 1) ∧ u.val.cell? ⟨gb, goff + 1, none⟩ = some (.int .i64 1) ∧ u.val.cell? ⟨gb, goff + 2, none⟩ = some (.int .i64 7) ∧ u.val.cell? ⟨gb, goff + 3, none⟩ = some (.int .i64 0) ∧ u.val.cell? ⟨gb, goff + 4, none⟩ = some (.int .i64 0) ∧ u.val.cell? ⟨gb, goff + 5, none⟩ = some (.int .i64 8) ∧ u.val.cell? ⟨gb, goff + 6, none⟩ = some (.int .i64 2) := fun u => by
      obtain ⟨b', o', e, -, d0, d1, d2, d3, d4, d5, d6⟩ := Fls.at (HF4.below u.below) (i := 0) (by simp)
      injection e with e
      injection e with e1 e2
      subst e1; subst e2
      simp only [List.getD, List.getElem?_cons_zero, Option.getD_some, Nat.zero_mul, Nat.add_zero] at d0 d1 d2 d3 d4 d5 d6
      exact ⟨d0, d1, d2, d3, d4, d5, d6⟩
    have V0 := fun u => (U4 u).1
    have V1 := fun u => (U4 u).2.1
    have V2 := fun u => (U4 u).2.2.1
    have V3 := fun u => (U4 u).2.2.2.1
    have V4 := fun u => (U4 u).2.2.2.2.1
    have V5 := fun u => (U4 u).2.2.2.2.2.1
    have V6 := fun u => (U4 u).2.2.2.2.2.2
    clear U4
    have U1 : ∀ (u : Over W.heap.size W) i, u.val.cell? ⟨w.heap.size, i, none⟩ = #[.int .i64 1, .int .i64 7, .int .i64 0, .int .i64 0][i]? := fun u => row_cells (row_kept R1 u.below (row_lt R1))
    have U2 : ∀ (u : Over W.heap.size W) i, u.val.cell? ⟨b2, i, none⟩ = #[.int .i64 2, .slice A 1 c, .int .i64 1, .int .i64 0, .int .i64 0, .int .i64 0, .int .i64 8, .int .i64 0, .bool false][i]? := fun u => row_cells (row_kept R2 u.below (row_lt R2))
    have U3 : ∀ (u : Over W.heap.size W) i, u.val.cell? ⟨b3, i, none⟩ = #[.int .i64 1, .int .i64 1, .int .i64 7, .int .i64 0, .int .i64 0, .int .i64 0, .int .i64 1][i]? := fun u => row_cells (row_kept R3 u.below (row_lt R3))
    have U5 : ∀ (u : Over W.heap.size W) i, u.val.cell? ⟨w3.heap.size, i, none⟩ = #[.int .i64 2, .slice A3 1 c3, .int .i64 1, .int .i64 0, .int .i64 0, .int .i64 0, .int .i64 8, .int .i64 0, .bool false][i]? := fun u => row_cells (row_kept R5 u.below (row_lt R5))
    have U7 : ∀ (u : Over W.heap.size W) i, u.val.cell? ⟨w4.heap.size, i, none⟩ = #[.int .i64 2, .slice A4 1 c4, .int .i64 1, .int .i64 0, .int .i64 0, .int .i64 0, .int .i64 16, .int .i64 1, .bool false][i]? := fun u => row_cells (row_kept R7 u.below (row_lt R7))
    have U11 : ∀ (u : Over W.heap.size W) i, u.val.cell? ⟨w6.heap.size, i, none⟩ = #[.int .i64 2, .slice A6 0 c6, .int .i64 2, .int .i64 0, .int .i64 24, .int .i64 6, .int .i64 9, .int .i64 0, .bool true][i]? := fun u => row_cells (row_kept R11 u.below (row_lt R11))
    have hfe : ∀ W : World, (binOp .eql flT (.agg #[.int .i64 1, .int .i64 1, .int .i64 7, .int .i64 0, .int .i64 0, .int .i64 8, .int .i64 2]) (.agg #[.int .i64 1, .int .i64 1, .int .i64 7, .int .i64 0, .int .i64 0, .int .i64 8, .int .i64 2])).run Try.prog W = .ok (.bool true) W := fun W => by
      have := fl_eql ⟨1, 1, 7, 0, 0, 8, 2⟩ ⟨1, 1, 7, 0, 0, 8, 2⟩ W
      simpa using this
    have HF := Lib.hid HF
    have HF3 := Lib.hid HF3
    have HF6 := Lib.hid HF6
    have HSM := Lib.hid (show decide (((0 : Int) = 0 ∧ (0 : Int) = 0 ∧ (8 : Int) = 8 ∧ (0 : Int) = 0 ∧ false = false) ∧ (2 : Int) = 2 ∧ (1 : Int) = 1 ∧ (0 : Int) = 0 ∧ ([⟨1, 1, 7, 0, 0, 0, 1⟩] : List Fl) = [⟨1, 1, 7, 0, 0, 0, 1⟩]) = true by simp)
    have HRM := Lib.hid (show Sd.right ⟨2, [], 2, 0⟩ = true by kernel_rfl)
    have HRV := Lib.hid (show Sd.room ⟨2, [], 2, 0⟩ = 2 by kernel_rfl)
    have HRT := Lib.hid (show (Sd.right ⟨2, [⟨1, 1, 7, 0, 0, 0, 1⟩], 1, 0⟩ && Rtt.right ⟨0, 0, 8, 0, false⟩) = true by kernel_rfl)
    have HRZ := Lib.hid (show (Sd.right ⟨0, [], 0, 0⟩ && Rtt.right ⟨0, 0, 0, 0, false⟩) = false by kernel_rfl)
    have P1 := Lib.hid (show 1 ≤ 1000000 by decide)
    have L1 := Lib.hid (show ([⟨1, 1, 7, 0, 0, 0, 1⟩] : List Fl).length = 1 from rfl)
    have L0 := Lib.hid (show ([] : List Fl).length = 0 from rfl)
    have N0 := Lib.hid (fun X : World => show Fls X none [] from Or.inl rfl)
    have P2 := Lib.hid (show 1 ≤ 9223372036854775807 by decide)
    have P3 := Lib.hid (show 0 ≤ 9223372036854775807 by decide)
    have D0 := Lib.hid (show decide (0 = 0) = true from rfl)
    have D1 := Lib.hid (show decide (1 = 0) = false from rfl)
    simp only [List.append_eq, List.cons_append, List.nil_append]
    refine region_class (fun u : Over W.heap.size W => u.val) ⟨W.drew, below_drewN (Below.refl _ _) 1⟩ rfl (by kernel_rfl) (by kernel_rfl) ?_
    repeat (go_big_quiet_step ((first
      | (go_at_call 12; with_reducible exact over_left (Nat.le_refl _) (chsame_to L1.out L1.out (HF3.out.below (Over.below _)) (HF.out.below (Over.below _)) P1.out HSM.out))
      | (go_at_call 17; with_reducible exact over_left (Nat.le_refl _) (chidle_to D0.out))
      | (go_at_call 17; with_reducible exact over_left (Nat.le_refl _) (chidle_to D1.out))
      | (go_at_call 15; with_reducible exact over_left (Nat.le_refl _) (chroom_to HRM.out L0.out (HF6.out.below (Over.below _)) HRV.out))
      | (go_at_call 10; with_reducible exact over_left (Nat.le_refl _) (chright_to L1.out (HF.out.below (Over.below _)) P2.out HRT.out))
      | (go_at_call 10; with_reducible exact over_left (Nat.le_refl _) (chright_to L0.out (N0.out _) P3.out HRZ.out)))))
    with_reducible refine wpQuiet_nil ?_
    rintro _ ⟨⟨w7, B7⟩, rfl⟩
    go_wp2
    go_ret
    exact ⟨rfl, BW.trans (B7.mono BW.size)⟩
end Go.Proofs.Ytiecebncnflpiaa
