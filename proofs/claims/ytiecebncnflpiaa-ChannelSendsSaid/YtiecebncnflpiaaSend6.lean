/- Package send: grown. -/
import Derived.Test.YtiecebncnflpiaaSend5
import Derived.ScopeJumps
import Derived.WalkMore
namespace Go.Proofs.Ytiecebncnflpiaa
open Go.ChangeShapes Go.WideShapes Go.ChangeAt Go.RowKit Go.Shelf

namespace Sd
def grw : Nat → Int → Int → Int × Int
  | 0, w, c => (w, c)
  | F + 1, w, c => if w ≤ c then grw F (min (w + 1) 8) (c - w) else (w, c)
def grown (w c : Int) : Int × Int := grw (c.toNat + 1) w c
theorem grw_bd : ∀ (F : Nat) (w c : Int), 1 ≤ w → w ≤ 8 → 0 ≤ c → c < F → (w ≤ (grw F w c).1 ∧ (grw F w c).1 ≤ 8) ∧ 0 ≤ (grw F w c).2 ∧ (grw F w c).2 < (grw F w c).1
  | 0, w, c, _, _, h1, h2 => by omega
  | F + 1, w, c, h1, h2, h3, h4 => by
    rw [grw]
    split
    · rename_i h
      have := grw_bd F (min (w + 1) 8) (c - w) (by omega) (by omega) (by omega) (by omega)
      omega
    · dsimp only; omega
end Sd
theorem two_sends (w : World) (cs cs2 : Array Value) (t : TypeId) : ∃ V, (w.alloc (.cells cs t)).alloc (.cells cs2 t) = V ∧ V.heap[w.heap.size]? = some (.cells cs t) ∧ V.heap[w.heap.size + 1]? = some (.cells cs2 t) ∧ Below w.heap.size w V ∧ V.heap.size = w.heap.size + 2 := by
  refine ⟨_, rfl, (Below.heap_alloc _ _ _ (by simp)).trans (MapKept.heap_alloc w _).1, ?_, ((Below.refl _ _).alloc (Nat.le_refl _) _).alloc (by simp) _, by simp⟩
  have := (MapKept.heap_alloc (w.alloc (.cells cs t)) (.cells cs2 t)).1
  simpa using this
theorem setRow_id {w : World} {g : Nat} {t : TypeId} {cs : Array Value} (h : w.heap[g]? = some (.cells cs t)) : setRow w g t cs = w := by
  refine world_eq (fun k => ?_) rfl rfl rfl rfl
  rw [setRow_heap]
  split
  · rename_i hk; rw [hk.1]; exact h.symm
  · rfl

def mu3 (g : Nat) (w : World) : Nat := match w.cell? ⟨g, 3, none⟩ with
  | some v => (intOf v).toNat
  | none => 0
theorem mu3_row {w : World} {g : Nat} (hg : g < w.heap.size) (a b c : Value) (x : Int) : mu3 g (setRow w g seT #[a, b, c, .int .i64 x]) = x.toNat := by
  unfold mu3
  rw [setRow_cell hg]
  rfl
set_option maxRecDepth 100000 in
set_option maxHeartbeats 2000000 in
theorem grown_any (w : World) (n ww cc : Int) (A : Option Addr) (k c : Nat) (hw : 1 ≤ ww ∧ ww ≤ 8) (hc : 0 ≤ cc ∧ cc ≤ 1099511627776) {wf cf : Int} (hf : Sd.grown ww cc = (wf, cf)) :
    Calls Try.prog 63 #[.agg #[.int .i64 n, .slice A k c, .int .i64 ww, .int .i64 cc]] w fun e w' => e = .returned (.agg #[.int .i64 n, .slice A k c, .int .i64 wf, .int .i64 cf]) ∧ Below w.heap.size w w' := by
  have z0 := zero_send
  obtain ⟨V, hV, R1, R2, BV, SV⟩ := two_sends w #[.int .i64 n, .slice A k c, .int .i64 ww, .int .i64 cc] #[.int .i64 0, .slice none 0 0, .int .i64 0, .int .i64 0] seT
  obtain ⟨s0, s1, c1, f1, c2', f2, s2, s3, c3, f3, z1, c0, f0, c02, f02⟩ := rows2 R1 R2 (by omega)
  have HB := Lib.hid BV
  have HF := Lib.hid hf
  have HV := Lib.hid (setRow_id R1)
  have HL := Lib.hid (row_lt R1)
  have HR := Lib.hid (And.intro R1 R2)
  clear R1 R2 BV hf SV
  go_enter Try.func63, Try.ntmps63
  go_wp2
  refine wp_scope_jumps 0 (fun a' w' => ∃ (ww' cc' : Int) (F : Nat) (u3 u4 u5 u6 u7 u8 u9 u10 u11 u12 u13 u14 u15 u16 u17 u18 u19 : Value), a' = { tmps := #[.agg #[.int .i64 n, .slice A k c, .int .i64 ww, .int .i64 cc], .pointer (some ⟨w.heap.size, 0, none⟩), .pointer (some ⟨w.heap.size + 1, 0, none⟩), u3, u4, u5, u6, u7, u8, u9, u10, u11, u12, u13, u14, u15, u16, u17, u18, u19], defers := [] } ∧ w' = setRow V w.heap.size seT #[.int .i64 n, .slice A k c, .int .i64 ww', .int .i64 cc'] ∧ (1 ≤ ww' ∧ ww' ≤ 8) ∧ (0 ≤ cc' ∧ cc' ≤ 1099511627776) ∧ cc' < F ∧ Sd.grw F ww' cc' = (wf, cf)) (fun _ w' => mu3 w.heap.size w') rfl ?_ ?_
  · have HG := HF
    unfold Sd.grown at HG
    have e1 : IntKind.i64.wrap (cc - ww) = cc - ww := IntWalk.i64_in _ (by omega)
    have e2 : IntKind.i64.wrap (ww + 1) = ww + 1 := IntWalk.i64_in _ (by omega)
    by_cases hle : ww ≤ cc
    · have HG2 := Lib.hid (show Sd.grw cc.toNat (min (ww + 1) 8) (cc - ww) = (wf, cf) by have := HG.out; rw [Sd.grw, if_pos hle] at this; exact this)
      by_cases h8 : ww + 1 ≤ 8
      · rw [show min (ww + 1) 8 = ww + 1 by omega] at HG2
        go_wp2
        go_step3
        go_wp2
        go_step3
        exact ⟨rfl, ww + 1, cc - ww, cc.toNat, _, _, _, _, _, _, _, _, _, _, _, _, _, _, _, _, _, rfl, rfl, by omega, by omega, by omega, HG2.out⟩
      · rw [show min (ww + 1) 8 = 8 by omega] at HG2
        go_wp2
        go_step3
        go_wp2
        go_step3
        exact ⟨rfl, 8, cc - ww, cc.toNat, _, _, _, _, _, _, _, _, _, _, _, _, _, _, _, _, _, rfl, rfl, by omega, by omega, by omega, HG2.out⟩
    · have e3 : ww = wf ∧ cc = cf := by
        have := HG.out
        rw [Sd.grw, if_neg hle] at this
        exact ⟨congrArg Prod.fst this, congrArg Prod.snd this⟩
      obtain ⟨rfl, rfl⟩ := e3
      obtain ⟨t0, t1, d0, d1, y0, y1, x1⟩ := rows1 HR.out.2
      go_wp2
      go_step3
      go_wp2
      simp only [Exit.jump]
      refine bodyPost_ret (v := .agg #[.int .i64 n, .slice A k c, .int .i64 ww, .int .i64 cc]) ?_ rfl ⟨rfl, ?_⟩
      · simp [results, Try.results63, go_sem, d1]
      · exact setRow_below HB.out (by omega)
  · rintro a' w' ⟨ww', cc', F, u3, u4, u5, u6, u7, u8, u9, u10, u11, u12, u13, u14, u15, u16, u17, u18, u19, rfl, rfl, hw', hc', hF, hG⟩
    have HG := Lib.hid hG
    have e1 : IntKind.i64.wrap (cc' - ww') = cc' - ww' := IntWalk.i64_in _ (by omega)
    have e2 : IntKind.i64.wrap (ww' + 1) = ww' + 1 := IntWalk.i64_in _ (by omega)
    clear hG
    by_cases hle : ww' ≤ cc'
    · obtain ⟨F, rfl⟩ : ∃ G, F = G + 1 := ⟨F - 1, by omega⟩
      have HG2 := Lib.hid (show Sd.grw F (min (ww' + 1) 8) (cc' - ww') = (wf, cf) by have := HG.out; rw [Sd.grw, if_pos hle] at this; exact this)
      by_cases h8 : ww' + 1 ≤ 8
      · rw [show min (ww' + 1) 8 = ww' + 1 by omega] at HG2
        go_wp2
        go_step3
        refine ⟨rfl, ⟨ww' + 1, cc' - ww', F, _, _, _, _, _, _, _, _, _, _, _, _, _, _, _, _, _, rfl, rfl, by omega, by omega, by omega, HG2.out⟩, ?_⟩
        rw [mu3_row HL.out, mu3_row HL.out]
        omega
      · rw [show min (ww' + 1) 8 = 8 by omega] at HG2
        go_wp2
        go_step3
        refine ⟨rfl, ⟨8, cc' - ww', F, _, _, _, _, _, _, _, _, _, _, _, _, _, _, _, _, _, rfl, rfl, by omega, by omega, by omega, HG2.out⟩, ?_⟩
        rw [mu3_row HL.out, mu3_row HL.out]
        omega
    · have e3 : ww' = wf ∧ cc' = cf := by
        have := HG.out
        obtain ⟨F, rfl⟩ : ∃ G, F = G + 1 := ⟨F - 1, by omega⟩
        rw [Sd.grw, if_neg hle] at this
        exact ⟨congrArg Prod.fst this, congrArg Prod.snd this⟩
      obtain ⟨rfl, rfl⟩ := e3
      go_wp2
      simp only [Exit.jump]
      refine bodyPost_ret (v := .agg #[.int .i64 n, .slice A k c, .int .i64 ww', .int .i64 cc']) ?_ rfl ⟨rfl, ?_⟩
      · simp [results, Try.results63, go_sem, c3]
      · exact setRow_below (setRow_below HB.out (Nat.le_refl _)) (by omega)
end Go.Proofs.Ytiecebncnflpiaa
