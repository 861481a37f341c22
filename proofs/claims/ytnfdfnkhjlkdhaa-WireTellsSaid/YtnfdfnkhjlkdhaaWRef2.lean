/- The document's own packets: a piece that is read, a piece that is set. -/
import Derived.Test.YtnfdfnkhjlkdhaaWRef
namespace Go.Proofs.Ytnfdfnkhjlkdhaa
open Go.ChangeShapes Go.WideShapes Go.ChangeAt Go.RowKit
set_option maxHeartbeats 4000000 in
theorem rget_any (p : Pk) (hp : p.Wf) (j : Nat) (hj1 : 1 ≤ j) (hj2 : j ≤ 11) (w : World) (v : Int) (hv : (j : Int) - 1 = v) (r : Int) (hr : p.h.getD j 0 = r) : Calls Try.prog 24 #[.agg (pcs p).toArray, .int .i64 v] w fun e w' => e = .returned (.int .i64 r) ∧ Below w.heap.size w w' := by
  have R0 := row_new (W := w) (cs := (pcs p).toArray) (t := pkT) (m := (0, 0))
  have B0 : Below w.heap.size w (w.alloc (.cells (pcs p).toArray pkT)) := (Below.refl _ _).alloc (Nat.le_refl _) _
  have c1 := pk_cell R0 hp 1 (by decide)
  have c2 := pk_cell R0 hp 2 (by decide)
  have c3 := pk_cell R0 hp 3 (by decide)
  have c4 := pk_cell R0 hp 4 (by decide)
  have c5 := pk_cell R0 hp 5 (by decide)
  have c6 := pk_cell R0 hp 6 (by decide)
  have c7 := pk_cell R0 hp 7 (by decide)
  have c8 := pk_cell R0 hp 8 (by decide)
  have c9 := pk_cell R0 hp 9 (by decide)
  have c10 := pk_cell R0 hp 10 (by decide)
  have c11 := pk_cell R0 hp 11 (by decide)
  have hc : j = 1 ∨ j = 2 ∨ j = 3 ∨ j = 4 ∨ j = 5 ∨ j = 6 ∨ j = 7 ∨ j = 8 ∨ j = 9 ∨ j = 10 ∨ j = 11 := by omega
  rcases hc with rfl | rfl | rfl | rfl | rfl | rfl | rfl | rfl | rfl | rfl | rfl
  · rw [hr] at c1
    generalize p.h.getD 2 0 = y2 at c2
    generalize p.h.getD 3 0 = y3 at c3
    generalize p.h.getD 4 0 = y4 at c4
    generalize p.h.getD 5 0 = y5 at c5
    generalize p.h.getD 6 0 = y6 at c6
    generalize p.h.getD 7 0 = y7 at c7
    generalize p.h.getD 8 0 = y8 at c8
    generalize p.h.getD 9 0 = y9 at c9
    generalize p.h.getD 10 0 = y10 at c10
    generalize p.h.getD 11 0 = y11 at c11
    obtain rfl : 0 = v := by omega
    clear hr hv hj1 hj2 hp R0
    go_enter Try.func24, Try.ntmps24
    go_upto_region 1 with (fail)
    generalize w.alloc (.cells (pcs p).toArray pkT) = V at c1 c2 c3 c4 c5 c6 c7 c8 c9 c10 c11 B0 ⊢
    go_wp2
    go_ret
    exact ⟨rfl, B0.alloc B0.size _⟩
  · rw [hr] at c2
    generalize p.h.getD 1 0 = y1 at c1
    generalize p.h.getD 3 0 = y3 at c3
    generalize p.h.getD 4 0 = y4 at c4
    generalize p.h.getD 5 0 = y5 at c5
    generalize p.h.getD 6 0 = y6 at c6
    generalize p.h.getD 7 0 = y7 at c7
    generalize p.h.getD 8 0 = y8 at c8
    generalize p.h.getD 9 0 = y9 at c9
    generalize p.h.getD 10 0 = y10 at c10
    generalize p.h.getD 11 0 = y11 at c11
    obtain rfl : 1 = v := by omega
    clear hr hv hj1 hj2 hp R0
    go_enter Try.func24, Try.ntmps24
    go_upto_region 1 with (fail)
    generalize w.alloc (.cells (pcs p).toArray pkT) = V at c1 c2 c3 c4 c5 c6 c7 c8 c9 c10 c11 B0 ⊢
    go_wp2
    go_ret
    exact ⟨rfl, B0.alloc B0.size _⟩
  · rw [hr] at c3
    generalize p.h.getD 1 0 = y1 at c1
    generalize p.h.getD 2 0 = y2 at c2
    generalize p.h.getD 4 0 = y4 at c4
    generalize p.h.getD 5 0 = y5 at c5
    generalize p.h.getD 6 0 = y6 at c6
    generalize p.h.getD 7 0 = y7 at c7
    generalize p.h.getD 8 0 = y8 at c8
    generalize p.h.getD 9 0 = y9 at c9
    generalize p.h.getD 10 0 = y10 at c10
    generalize p.h.getD 11 0 = y11 at c11
    obtain rfl : 2 = v := by omega
    clear hr hv hj1 hj2 hp R0
    go_enter Try.func24, Try.ntmps24
    go_upto_region 1 with (fail)
    generalize w.alloc (.cells (pcs p).toArray pkT) = V at c1 c2 c3 c4 c5 c6 c7 c8 c9 c10 c11 B0 ⊢
    go_wp2
    go_ret
    exact ⟨rfl, B0.alloc B0.size _⟩
  · rw [hr] at c4
    generalize p.h.getD 1 0 = y1 at c1
    generalize p.h.getD 2 0 = y2 at c2
    generalize p.h.getD 3 0 = y3 at c3
    generalize p.h.getD 5 0 = y5 at c5
    generalize p.h.getD 6 0 = y6 at c6
    generalize p.h.getD 7 0 = y7 at c7
    generalize p.h.getD 8 0 = y8 at c8
    generalize p.h.getD 9 0 = y9 at c9
    generalize p.h.getD 10 0 = y10 at c10
    generalize p.h.getD 11 0 = y11 at c11
    obtain rfl : 3 = v := by omega
    clear hr hv hj1 hj2 hp R0
    go_enter Try.func24, Try.ntmps24
    go_upto_region 1 with (fail)
    generalize w.alloc (.cells (pcs p).toArray pkT) = V at c1 c2 c3 c4 c5 c6 c7 c8 c9 c10 c11 B0 ⊢
    go_wp2
    go_ret
    exact ⟨rfl, B0.alloc B0.size _⟩
  · rw [hr] at c5
    generalize p.h.getD 1 0 = y1 at c1
    generalize p.h.getD 2 0 = y2 at c2
    generalize p.h.getD 3 0 = y3 at c3
    generalize p.h.getD 4 0 = y4 at c4
    generalize p.h.getD 6 0 = y6 at c6
    generalize p.h.getD 7 0 = y7 at c7
    generalize p.h.getD 8 0 = y8 at c8
    generalize p.h.getD 9 0 = y9 at c9
    generalize p.h.getD 10 0 = y10 at c10
    generalize p.h.getD 11 0 = y11 at c11
    obtain rfl : 4 = v := by omega
    clear hr hv hj1 hj2 hp R0
    go_enter Try.func24, Try.ntmps24
    go_upto_region 1 with (fail)
    generalize w.alloc (.cells (pcs p).toArray pkT) = V at c1 c2 c3 c4 c5 c6 c7 c8 c9 c10 c11 B0 ⊢
    go_wp2
    go_ret
    exact ⟨rfl, B0.alloc B0.size _⟩
  · rw [hr] at c6
    generalize p.h.getD 1 0 = y1 at c1
    generalize p.h.getD 2 0 = y2 at c2
    generalize p.h.getD 3 0 = y3 at c3
    generalize p.h.getD 4 0 = y4 at c4
    generalize p.h.getD 5 0 = y5 at c5
    generalize p.h.getD 7 0 = y7 at c7
    generalize p.h.getD 8 0 = y8 at c8
    generalize p.h.getD 9 0 = y9 at c9
    generalize p.h.getD 10 0 = y10 at c10
    generalize p.h.getD 11 0 = y11 at c11
    obtain rfl : 5 = v := by omega
    clear hr hv hj1 hj2 hp R0
    go_enter Try.func24, Try.ntmps24
    go_upto_region 1 with (fail)
    generalize w.alloc (.cells (pcs p).toArray pkT) = V at c1 c2 c3 c4 c5 c6 c7 c8 c9 c10 c11 B0 ⊢
    go_wp2
    go_ret
    exact ⟨rfl, B0.alloc B0.size _⟩
  · rw [hr] at c7
    generalize p.h.getD 1 0 = y1 at c1
    generalize p.h.getD 2 0 = y2 at c2
    generalize p.h.getD 3 0 = y3 at c3
    generalize p.h.getD 4 0 = y4 at c4
    generalize p.h.getD 5 0 = y5 at c5
    generalize p.h.getD 6 0 = y6 at c6
    generalize p.h.getD 8 0 = y8 at c8
    generalize p.h.getD 9 0 = y9 at c9
    generalize p.h.getD 10 0 = y10 at c10
    generalize p.h.getD 11 0 = y11 at c11
    obtain rfl : 6 = v := by omega
    clear hr hv hj1 hj2 hp R0
    go_enter Try.func24, Try.ntmps24
    go_upto_region 1 with (fail)
    generalize w.alloc (.cells (pcs p).toArray pkT) = V at c1 c2 c3 c4 c5 c6 c7 c8 c9 c10 c11 B0 ⊢
    go_wp2
    go_ret
    exact ⟨rfl, B0.alloc B0.size _⟩
  · rw [hr] at c8
    generalize p.h.getD 1 0 = y1 at c1
    generalize p.h.getD 2 0 = y2 at c2
    generalize p.h.getD 3 0 = y3 at c3
    generalize p.h.getD 4 0 = y4 at c4
    generalize p.h.getD 5 0 = y5 at c5
    generalize p.h.getD 6 0 = y6 at c6
    generalize p.h.getD 7 0 = y7 at c7
    generalize p.h.getD 9 0 = y9 at c9
    generalize p.h.getD 10 0 = y10 at c10
    generalize p.h.getD 11 0 = y11 at c11
    obtain rfl : 7 = v := by omega
    clear hr hv hj1 hj2 hp R0
    go_enter Try.func24, Try.ntmps24
    go_upto_region 1 with (fail)
    generalize w.alloc (.cells (pcs p).toArray pkT) = V at c1 c2 c3 c4 c5 c6 c7 c8 c9 c10 c11 B0 ⊢
    go_wp2
    go_ret
    exact ⟨rfl, B0.alloc B0.size _⟩
  · rw [hr] at c9
    generalize p.h.getD 1 0 = y1 at c1
    generalize p.h.getD 2 0 = y2 at c2
    generalize p.h.getD 3 0 = y3 at c3
    generalize p.h.getD 4 0 = y4 at c4
    generalize p.h.getD 5 0 = y5 at c5
    generalize p.h.getD 6 0 = y6 at c6
    generalize p.h.getD 7 0 = y7 at c7
    generalize p.h.getD 8 0 = y8 at c8
    generalize p.h.getD 10 0 = y10 at c10
    generalize p.h.getD 11 0 = y11 at c11
    obtain rfl : 8 = v := by omega
    clear hr hv hj1 hj2 hp R0
    go_enter Try.func24, Try.ntmps24
    go_upto_region 1 with (fail)
    generalize w.alloc (.cells (pcs p).toArray pkT) = V at c1 c2 c3 c4 c5 c6 c7 c8 c9 c10 c11 B0 ⊢
    go_wp2
    go_ret
    exact ⟨rfl, B0.alloc B0.size _⟩
  · rw [hr] at c10
    generalize p.h.getD 1 0 = y1 at c1
    generalize p.h.getD 2 0 = y2 at c2
    generalize p.h.getD 3 0 = y3 at c3
    generalize p.h.getD 4 0 = y4 at c4
    generalize p.h.getD 5 0 = y5 at c5
    generalize p.h.getD 6 0 = y6 at c6
    generalize p.h.getD 7 0 = y7 at c7
    generalize p.h.getD 8 0 = y8 at c8
    generalize p.h.getD 9 0 = y9 at c9
    generalize p.h.getD 11 0 = y11 at c11
    obtain rfl : 9 = v := by omega
    clear hr hv hj1 hj2 hp R0
    go_enter Try.func24, Try.ntmps24
    go_upto_region 1 with (fail)
    generalize w.alloc (.cells (pcs p).toArray pkT) = V at c1 c2 c3 c4 c5 c6 c7 c8 c9 c10 c11 B0 ⊢
    go_wp2
    go_ret
    exact ⟨rfl, B0.alloc B0.size _⟩
  · rw [hr] at c11
    generalize p.h.getD 1 0 = y1 at c1
    generalize p.h.getD 2 0 = y2 at c2
    generalize p.h.getD 3 0 = y3 at c3
    generalize p.h.getD 4 0 = y4 at c4
    generalize p.h.getD 5 0 = y5 at c5
    generalize p.h.getD 6 0 = y6 at c6
    generalize p.h.getD 7 0 = y7 at c7
    generalize p.h.getD 8 0 = y8 at c8
    generalize p.h.getD 9 0 = y9 at c9
    generalize p.h.getD 10 0 = y10 at c10
    obtain rfl : 10 = v := by omega
    clear hr hv hj1 hj2 hp R0
    go_enter Try.func24, Try.ntmps24
    go_upto_region 1 with (fail)
    generalize w.alloc (.cells (pcs p).toArray pkT) = V at c1 c2 c3 c4 c5 c6 c7 c8 c9 c10 c11 B0 ⊢
    go_wp2
    go_ret
    exact ⟨rfl, B0.alloc B0.size _⟩
set_option maxHeartbeats 4000000 in
theorem rwith_any (p : Pk) (hp : p.Wf) (j : Nat) (hj1 : 1 ≤ j) (hj2 : j ≤ 11) (n : Int) (w : World) (v : Int) (hv : (j : Int) - 1 = v) (q : Pk) (hq : { p with h := p.h.set j n } = q) : Calls Try.prog 32 #[.agg (pcs p).toArray, .int .i64 v, .int .i64 n] w fun e w' => e = .returned (.agg (pcs q).toArray) ∧ Below w.heap.size w w' := by
  have zpk := zero_pk
  have R0 := row_new (W := w) (cs := (pcs p).toArray) (t := pkT) (m := (0, 0))
  have A1 : Below w.heap.size w ((w.alloc (.cells (pcs p).toArray pkT)).alloc (.cells (pcs pk0).toArray pkT)) := ((Below.refl _ _).alloc (Nat.le_refl _) _).alloc (by simp) _
  have R0 := row_kept R0 ((Below.refl _ _).alloc (Nat.le_refl _) (.cells (pcs pk0).toArray pkT)) (row_lt R0)
  have RR : ((w.alloc (.cells (pcs p).toArray pkT)).alloc (.cells (pcs pk0).toArray pkT)).heap[w.heap.size + 1]? = some (.cells (pcs pk0).toArray pkT) := by
    have := row_new (W := w.alloc (.cells (pcs p).toArray pkT)) (cs := (pcs pk0).toArray) (t := pkT) (m := (0, 0))
    simpa using this
  have hset : (pcs p).toArray.setIfInBounds j (.int .i64 n) = (pcs q).toArray := by
    rw [List.setIfInBounds_toArray, pcs_set hp j (by omega), hq]
  have hin : (pcs p).toArray[j]? = some (.int .i64 (p.h.getD j 0)) := by rw [List.getElem?_toArray]; exact pcs_at hp j (by omega)
  have hqw : q.Wf := by rw [← hq]; exact ⟨by rw [List.length_set]; exact hp.h, hp.s, hp.t⟩
  have Lq := pcs_len hqw
  have L0 : (pcs pk0).length = 36 := pcs_len pk0_wf
  have HQ := Lib.hid hqw
  generalize p.h.getD j 0 = y at hin
  have HSET := Lib.hid hset
  have hc : j = 1 ∨ j = 2 ∨ j = 3 ∨ j = 4 ∨ j = 5 ∨ j = 6 ∨ j = 7 ∨ j = 8 ∨ j = 9 ∨ j = 10 ∨ j = 11 := by omega
  clear hq hqw hset
  rcases hc with rfl | rfl | rfl | rfl | rfl | rfl | rfl | rfl | rfl | rfl | rfl
  · obtain rfl : 0 = v := by omega
    clear hv hj1 hj2 hp
    go_enter Try.func32, Try.ntmps32
    go_upto_region 1 with (fail)
    generalize (w.alloc (.cells (pcs p).toArray pkT)).alloc (.cells (pcs pk0).toArray pkT) = V at R0 RR A1 ⊢
    generalize (pcs p).toArray = L at R0 hin HSET
    obtain ⟨s0, s1, d0, d1, f0, f1, zz⟩ := rows1 R0
    go_upto_region 24 with (fail)
    rw [HSET.out]
    have RR := (setRow_far (w := V) (g := w.heap.size) (t := pkT) (cs := (pcs q).toArray) (show w.heap.size + 1 ≠ w.heap.size by omega)).trans RR
    have R0 := row_written (t := pkT) (ds := (pcs q).toArray) R0
    have A2 := setRow_below (g := w.heap.size) (t := pkT) (cs := (pcs q).toArray) A1 (Nat.le_refl _)
    generalize setRow V w.heap.size pkT (pcs q).toArray = V1 at R0 RR A2 ⊢
    clear s0 s1 d0 d1 f0 f1 zz hin HSET A1
    go_wp2_with (first
      | ((refine wpl_pk ?_ (.tmp 3) ?_ w.heap.size q HQ.out ?_ R0 ?_); (rfl); (rfl); (rfl))
      | (refine wpl_arr_store info_pk rfl (.tmp 6) (.tmp 52) rfl (w.heap.size + 1) (pcs q) (pcs pk0) Lq L0 (pcs_one _) rfl rfl RR ?_))
    exact bodyPost_ret (row_results Try.underlying25 rfl info_pk Try.results32 Lq rfl (row_written RR)) rfl ⟨rfl, setRow_below A2 (by omega)⟩
  · obtain rfl : 1 = v := by omega
    clear hv hj1 hj2 hp
    go_enter Try.func32, Try.ntmps32
    go_upto_region 1 with (fail)
    generalize (w.alloc (.cells (pcs p).toArray pkT)).alloc (.cells (pcs pk0).toArray pkT) = V at R0 RR A1 ⊢
    generalize (pcs p).toArray = L at R0 hin HSET
    obtain ⟨s0, s1, d0, d1, f0, f1, zz⟩ := rows1 R0
    go_upto_region 24 with (fail)
    rw [HSET.out]
    have RR := (setRow_far (w := V) (g := w.heap.size) (t := pkT) (cs := (pcs q).toArray) (show w.heap.size + 1 ≠ w.heap.size by omega)).trans RR
    have R0 := row_written (t := pkT) (ds := (pcs q).toArray) R0
    have A2 := setRow_below (g := w.heap.size) (t := pkT) (cs := (pcs q).toArray) A1 (Nat.le_refl _)
    generalize setRow V w.heap.size pkT (pcs q).toArray = V1 at R0 RR A2 ⊢
    clear s0 s1 d0 d1 f0 f1 zz hin HSET A1
    go_wp2_with (first
      | ((refine wpl_pk ?_ (.tmp 3) ?_ w.heap.size q HQ.out ?_ R0 ?_); (rfl); (rfl); (rfl))
      | (refine wpl_arr_store info_pk rfl (.tmp 6) (.tmp 52) rfl (w.heap.size + 1) (pcs q) (pcs pk0) Lq L0 (pcs_one _) rfl rfl RR ?_))
    exact bodyPost_ret (row_results Try.underlying25 rfl info_pk Try.results32 Lq rfl (row_written RR)) rfl ⟨rfl, setRow_below A2 (by omega)⟩
  · obtain rfl : 2 = v := by omega
    clear hv hj1 hj2 hp
    go_enter Try.func32, Try.ntmps32
    go_upto_region 1 with (fail)
    generalize (w.alloc (.cells (pcs p).toArray pkT)).alloc (.cells (pcs pk0).toArray pkT) = V at R0 RR A1 ⊢
    generalize (pcs p).toArray = L at R0 hin HSET
    obtain ⟨s0, s1, d0, d1, f0, f1, zz⟩ := rows1 R0
    go_upto_region 24 with (fail)
    rw [HSET.out]
    have RR := (setRow_far (w := V) (g := w.heap.size) (t := pkT) (cs := (pcs q).toArray) (show w.heap.size + 1 ≠ w.heap.size by omega)).trans RR
    have R0 := row_written (t := pkT) (ds := (pcs q).toArray) R0
    have A2 := setRow_below (g := w.heap.size) (t := pkT) (cs := (pcs q).toArray) A1 (Nat.le_refl _)
    generalize setRow V w.heap.size pkT (pcs q).toArray = V1 at R0 RR A2 ⊢
    clear s0 s1 d0 d1 f0 f1 zz hin HSET A1
    go_wp2_with (first
      | ((refine wpl_pk ?_ (.tmp 3) ?_ w.heap.size q HQ.out ?_ R0 ?_); (rfl); (rfl); (rfl))
      | (refine wpl_arr_store info_pk rfl (.tmp 6) (.tmp 52) rfl (w.heap.size + 1) (pcs q) (pcs pk0) Lq L0 (pcs_one _) rfl rfl RR ?_))
    exact bodyPost_ret (row_results Try.underlying25 rfl info_pk Try.results32 Lq rfl (row_written RR)) rfl ⟨rfl, setRow_below A2 (by omega)⟩
  · obtain rfl : 3 = v := by omega
    clear hv hj1 hj2 hp
    go_enter Try.func32, Try.ntmps32
    go_upto_region 1 with (fail)
    generalize (w.alloc (.cells (pcs p).toArray pkT)).alloc (.cells (pcs pk0).toArray pkT) = V at R0 RR A1 ⊢
    generalize (pcs p).toArray = L at R0 hin HSET
    obtain ⟨s0, s1, d0, d1, f0, f1, zz⟩ := rows1 R0
    go_upto_region 24 with (fail)
    rw [HSET.out]
    have RR := (setRow_far (w := V) (g := w.heap.size) (t := pkT) (cs := (pcs q).toArray) (show w.heap.size + 1 ≠ w.heap.size by omega)).trans RR
    have R0 := row_written (t := pkT) (ds := (pcs q).toArray) R0
    have A2 := setRow_below (g := w.heap.size) (t := pkT) (cs := (pcs q).toArray) A1 (Nat.le_refl _)
    generalize setRow V w.heap.size pkT (pcs q).toArray = V1 at R0 RR A2 ⊢
    clear s0 s1 d0 d1 f0 f1 zz hin HSET A1
    go_wp2_with (first
      | ((refine wpl_pk ?_ (.tmp 3) ?_ w.heap.size q HQ.out ?_ R0 ?_); (rfl); (rfl); (rfl))
      | (refine wpl_arr_store info_pk rfl (.tmp 6) (.tmp 52) rfl (w.heap.size + 1) (pcs q) (pcs pk0) Lq L0 (pcs_one _) rfl rfl RR ?_))
    exact bodyPost_ret (row_results Try.underlying25 rfl info_pk Try.results32 Lq rfl (row_written RR)) rfl ⟨rfl, setRow_below A2 (by omega)⟩
  · obtain rfl : 4 = v := by omega
    clear hv hj1 hj2 hp
    go_enter Try.func32, Try.ntmps32
    go_upto_region 1 with (fail)
    generalize (w.alloc (.cells (pcs p).toArray pkT)).alloc (.cells (pcs pk0).toArray pkT) = V at R0 RR A1 ⊢
    generalize (pcs p).toArray = L at R0 hin HSET
    obtain ⟨s0, s1, d0, d1, f0, f1, zz⟩ := rows1 R0
    go_upto_region 24 with (fail)
    rw [HSET.out]
    have RR := (setRow_far (w := V) (g := w.heap.size) (t := pkT) (cs := (pcs q).toArray) (show w.heap.size + 1 ≠ w.heap.size by omega)).trans RR
    have R0 := row_written (t := pkT) (ds := (pcs q).toArray) R0
    have A2 := setRow_below (g := w.heap.size) (t := pkT) (cs := (pcs q).toArray) A1 (Nat.le_refl _)
    generalize setRow V w.heap.size pkT (pcs q).toArray = V1 at R0 RR A2 ⊢
    clear s0 s1 d0 d1 f0 f1 zz hin HSET A1
    go_wp2_with (first
      | ((refine wpl_pk ?_ (.tmp 3) ?_ w.heap.size q HQ.out ?_ R0 ?_); (rfl); (rfl); (rfl))
      | (refine wpl_arr_store info_pk rfl (.tmp 6) (.tmp 52) rfl (w.heap.size + 1) (pcs q) (pcs pk0) Lq L0 (pcs_one _) rfl rfl RR ?_))
    exact bodyPost_ret (row_results Try.underlying25 rfl info_pk Try.results32 Lq rfl (row_written RR)) rfl ⟨rfl, setRow_below A2 (by omega)⟩
  · obtain rfl : 5 = v := by omega
    clear hv hj1 hj2 hp
    go_enter Try.func32, Try.ntmps32
    go_upto_region 1 with (fail)
    generalize (w.alloc (.cells (pcs p).toArray pkT)).alloc (.cells (pcs pk0).toArray pkT) = V at R0 RR A1 ⊢
    generalize (pcs p).toArray = L at R0 hin HSET
    obtain ⟨s0, s1, d0, d1, f0, f1, zz⟩ := rows1 R0
    go_upto_region 24 with (fail)
    rw [HSET.out]
    have RR := (setRow_far (w := V) (g := w.heap.size) (t := pkT) (cs := (pcs q).toArray) (show w.heap.size + 1 ≠ w.heap.size by omega)).trans RR
    have R0 := row_written (t := pkT) (ds := (pcs q).toArray) R0
    have A2 := setRow_below (g := w.heap.size) (t := pkT) (cs := (pcs q).toArray) A1 (Nat.le_refl _)
    generalize setRow V w.heap.size pkT (pcs q).toArray = V1 at R0 RR A2 ⊢
    clear s0 s1 d0 d1 f0 f1 zz hin HSET A1
    go_wp2_with (first
      | ((refine wpl_pk ?_ (.tmp 3) ?_ w.heap.size q HQ.out ?_ R0 ?_); (rfl); (rfl); (rfl))
      | (refine wpl_arr_store info_pk rfl (.tmp 6) (.tmp 52) rfl (w.heap.size + 1) (pcs q) (pcs pk0) Lq L0 (pcs_one _) rfl rfl RR ?_))
    exact bodyPost_ret (row_results Try.underlying25 rfl info_pk Try.results32 Lq rfl (row_written RR)) rfl ⟨rfl, setRow_below A2 (by omega)⟩
  · obtain rfl : 6 = v := by omega
    clear hv hj1 hj2 hp
    go_enter Try.func32, Try.ntmps32
    go_upto_region 1 with (fail)
    generalize (w.alloc (.cells (pcs p).toArray pkT)).alloc (.cells (pcs pk0).toArray pkT) = V at R0 RR A1 ⊢
    generalize (pcs p).toArray = L at R0 hin HSET
    obtain ⟨s0, s1, d0, d1, f0, f1, zz⟩ := rows1 R0
    go_upto_region 24 with (fail)
    rw [HSET.out]
    have RR := (setRow_far (w := V) (g := w.heap.size) (t := pkT) (cs := (pcs q).toArray) (show w.heap.size + 1 ≠ w.heap.size by omega)).trans RR
    have R0 := row_written (t := pkT) (ds := (pcs q).toArray) R0
    have A2 := setRow_below (g := w.heap.size) (t := pkT) (cs := (pcs q).toArray) A1 (Nat.le_refl _)
    generalize setRow V w.heap.size pkT (pcs q).toArray = V1 at R0 RR A2 ⊢
    clear s0 s1 d0 d1 f0 f1 zz hin HSET A1
    go_wp2_with (first
      | ((refine wpl_pk ?_ (.tmp 3) ?_ w.heap.size q HQ.out ?_ R0 ?_); (rfl); (rfl); (rfl))
      | (refine wpl_arr_store info_pk rfl (.tmp 6) (.tmp 52) rfl (w.heap.size + 1) (pcs q) (pcs pk0) Lq L0 (pcs_one _) rfl rfl RR ?_))
    exact bodyPost_ret (row_results Try.underlying25 rfl info_pk Try.results32 Lq rfl (row_written RR)) rfl ⟨rfl, setRow_below A2 (by omega)⟩
  · obtain rfl : 7 = v := by omega
    clear hv hj1 hj2 hp
    go_enter Try.func32, Try.ntmps32
    go_upto_region 1 with (fail)
    generalize (w.alloc (.cells (pcs p).toArray pkT)).alloc (.cells (pcs pk0).toArray pkT) = V at R0 RR A1 ⊢
    generalize (pcs p).toArray = L at R0 hin HSET
    obtain ⟨s0, s1, d0, d1, f0, f1, zz⟩ := rows1 R0
    go_upto_region 24 with (fail)
    rw [HSET.out]
    have RR := (setRow_far (w := V) (g := w.heap.size) (t := pkT) (cs := (pcs q).toArray) (show w.heap.size + 1 ≠ w.heap.size by omega)).trans RR
    have R0 := row_written (t := pkT) (ds := (pcs q).toArray) R0
    have A2 := setRow_below (g := w.heap.size) (t := pkT) (cs := (pcs q).toArray) A1 (Nat.le_refl _)
    generalize setRow V w.heap.size pkT (pcs q).toArray = V1 at R0 RR A2 ⊢
    clear s0 s1 d0 d1 f0 f1 zz hin HSET A1
    go_wp2_with (first
      | ((refine wpl_pk ?_ (.tmp 3) ?_ w.heap.size q HQ.out ?_ R0 ?_); (rfl); (rfl); (rfl))
      | (refine wpl_arr_store info_pk rfl (.tmp 6) (.tmp 52) rfl (w.heap.size + 1) (pcs q) (pcs pk0) Lq L0 (pcs_one _) rfl rfl RR ?_))
    exact bodyPost_ret (row_results Try.underlying25 rfl info_pk Try.results32 Lq rfl (row_written RR)) rfl ⟨rfl, setRow_below A2 (by omega)⟩
  · obtain rfl : 8 = v := by omega
    clear hv hj1 hj2 hp
    go_enter Try.func32, Try.ntmps32
    go_upto_region 1 with (fail)
    generalize (w.alloc (.cells (pcs p).toArray pkT)).alloc (.cells (pcs pk0).toArray pkT) = V at R0 RR A1 ⊢
    generalize (pcs p).toArray = L at R0 hin HSET
    obtain ⟨s0, s1, d0, d1, f0, f1, zz⟩ := rows1 R0
    go_upto_region 24 with (fail)
    rw [HSET.out]
    have RR := (setRow_far (w := V) (g := w.heap.size) (t := pkT) (cs := (pcs q).toArray) (show w.heap.size + 1 ≠ w.heap.size by omega)).trans RR
    have R0 := row_written (t := pkT) (ds := (pcs q).toArray) R0
    have A2 := setRow_below (g := w.heap.size) (t := pkT) (cs := (pcs q).toArray) A1 (Nat.le_refl _)
    generalize setRow V w.heap.size pkT (pcs q).toArray = V1 at R0 RR A2 ⊢
    clear s0 s1 d0 d1 f0 f1 zz hin HSET A1
    go_wp2_with (first
      | ((refine wpl_pk ?_ (.tmp 3) ?_ w.heap.size q HQ.out ?_ R0 ?_); (rfl); (rfl); (rfl))
      | (refine wpl_arr_store info_pk rfl (.tmp 6) (.tmp 52) rfl (w.heap.size + 1) (pcs q) (pcs pk0) Lq L0 (pcs_one _) rfl rfl RR ?_))
    exact bodyPost_ret (row_results Try.underlying25 rfl info_pk Try.results32 Lq rfl (row_written RR)) rfl ⟨rfl, setRow_below A2 (by omega)⟩
  · obtain rfl : 9 = v := by omega
    clear hv hj1 hj2 hp
    go_enter Try.func32, Try.ntmps32
    go_upto_region 1 with (fail)
    generalize (w.alloc (.cells (pcs p).toArray pkT)).alloc (.cells (pcs pk0).toArray pkT) = V at R0 RR A1 ⊢
    generalize (pcs p).toArray = L at R0 hin HSET
    obtain ⟨s0, s1, d0, d1, f0, f1, zz⟩ := rows1 R0
    go_upto_region 24 with (fail)
    rw [HSET.out]
    have RR := (setRow_far (w := V) (g := w.heap.size) (t := pkT) (cs := (pcs q).toArray) (show w.heap.size + 1 ≠ w.heap.size by omega)).trans RR
    have R0 := row_written (t := pkT) (ds := (pcs q).toArray) R0
    have A2 := setRow_below (g := w.heap.size) (t := pkT) (cs := (pcs q).toArray) A1 (Nat.le_refl _)
    generalize setRow V w.heap.size pkT (pcs q).toArray = V1 at R0 RR A2 ⊢
    clear s0 s1 d0 d1 f0 f1 zz hin HSET A1
    go_wp2_with (first
      | ((refine wpl_pk ?_ (.tmp 3) ?_ w.heap.size q HQ.out ?_ R0 ?_); (rfl); (rfl); (rfl))
      | (refine wpl_arr_store info_pk rfl (.tmp 6) (.tmp 52) rfl (w.heap.size + 1) (pcs q) (pcs pk0) Lq L0 (pcs_one _) rfl rfl RR ?_))
    exact bodyPost_ret (row_results Try.underlying25 rfl info_pk Try.results32 Lq rfl (row_written RR)) rfl ⟨rfl, setRow_below A2 (by omega)⟩
  · obtain rfl : 10 = v := by omega
    clear hv hj1 hj2 hp
    go_enter Try.func32, Try.ntmps32
    go_upto_region 1 with (fail)
    generalize (w.alloc (.cells (pcs p).toArray pkT)).alloc (.cells (pcs pk0).toArray pkT) = V at R0 RR A1 ⊢
    generalize (pcs p).toArray = L at R0 hin HSET
    obtain ⟨s0, s1, d0, d1, f0, f1, zz⟩ := rows1 R0
    go_upto_region 24 with (fail)
    rw [HSET.out]
    have RR := (setRow_far (w := V) (g := w.heap.size) (t := pkT) (cs := (pcs q).toArray) (show w.heap.size + 1 ≠ w.heap.size by omega)).trans RR
    have R0 := row_written (t := pkT) (ds := (pcs q).toArray) R0
    have A2 := setRow_below (g := w.heap.size) (t := pkT) (cs := (pcs q).toArray) A1 (Nat.le_refl _)
    generalize setRow V w.heap.size pkT (pcs q).toArray = V1 at R0 RR A2 ⊢
    clear s0 s1 d0 d1 f0 f1 zz hin HSET A1
    go_wp2_with (first
      | ((refine wpl_pk ?_ (.tmp 3) ?_ w.heap.size q HQ.out ?_ R0 ?_); (rfl); (rfl); (rfl))
      | (refine wpl_arr_store info_pk rfl (.tmp 6) (.tmp 52) rfl (w.heap.size + 1) (pcs q) (pcs pk0) Lq L0 (pcs_one _) rfl rfl RR ?_))
    exact bodyPost_ret (row_results Try.underlying25 rfl info_pk Try.results32 Lq rfl (row_written RR)) rfl ⟨rfl, setRow_below A2 (by omega)⟩
end Go.Proofs.Ytnfdfnkhjlkdhaa
