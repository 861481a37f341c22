/- ChannelGrows holds for however many rounds, any time from 0 to 2^30, any note: a channel on which all that may be is sent, and acknowledged, has room for one more in each round, up to eight. No condition. -/
import Derived.Test.YtiecebncnflpiaaOpen12
import Derived.Test.YtiecebncnflpiaaLaw
namespace Go.Proofs.Ytiecebncnflpiaa.channelGrows
open Go.ChangeShapes Go.WideShapes Go.ChangeAt Go.RowKit Go.Shelf
open sendUni2
attribute [-go_sem] run_eql_struct run_neq_struct

theorem run_min2 (ts : Array TypeId) (t : TypeId) (a b m : Int) (hm : (if b < a then b else a) = m) (W : World) : (Builtin.min_ ts t #[.int .i64 a, .int .i64 b]).run Try.prog W = .ok (.int .i64 m) W := by
  rw [← hm]
  by_cases h : b < a
  · simp [Builtin.min_, Builtin.min2, h]
  · simp [Builtin.min_, Builtin.min2, h]
theorem right_nil {n wi : Int} (h1 : 1 ≤ n ∧ n ≤ 1073741824) (h2 : 1 ≤ wi ∧ wi ≤ 8) : Sd.right ⟨n, [], wi, 0⟩ = true := right_mk h1 h2 (by decide) (by simp) rfl
theorem room_nil {n wi : Int} (h1 : 1 ≤ n ∧ n ≤ 1000) (h2 : 1 ≤ wi ∧ wi ≤ 8) : Sd.room ⟨n, [], wi, 0⟩ = wi := by
  unfold Sd.room
  have : Sd.span ⟨n, [], wi, 0⟩ = 0 := rfl
  dsimp only [List.length_nil]
  rw [this]
  omega
theorem grown_all {wi : Int} (h2 : 1 ≤ wi ∧ wi ≤ 8) : Sd.grown wi (0 + (wi - ((0 : Nat) : Int))) = (min (wi + 1) 8, 0) := by
  have : wi = 1 ∨ wi = 2 ∨ wi = 3 ∨ wi = 4 ∨ wi = 5 ∨ wi = 6 ∨ wi = 7 ∨ wi = 8 := by omega
  rcases this with rfl | rfl | rfl | rfl | rfl | rfl | rfl | rfl <;> rfl
theorem tk_one (n now : Int) : ∀ (L : List Fl) (m : Int), (m = 1 ∨ (m = -1 ∧ L ≠ [])) → (∀ f ∈ L, Sd.gone (n - 1) 0 f = true ∧ f.t = 1 ∧ f.a = now) → L.foldl (Sd.tk1 (n - 1) 0 (now + 1)) m = 1
  | [], m, hm, _ => by
    rcases hm with h | ⟨_, h⟩
    · exact h
    · exact absurd rfl h
  | f :: r, m, hm, hf => by
    rw [List.foldl_cons]
    obtain ⟨h1, h2, h3⟩ := hf f (List.mem_cons_self ..)
    refine tk_one n now r _ (Or.inl ?_) (fun g hg => hf g (List.mem_cons_of_mem _ hg))
    unfold Sd.tk1
    rw [if_pos ⟨h1, h2⟩, h3]
    rcases hm with h | ⟨h, _⟩ <;> rw [h] <;> omega
theorem acked_full {n wi now : Int} {L : List Fl} (hr : Sd.right ⟨n, L, wi, 0⟩ = true) (hl : (L.length : Int) = wi) (ha : ∀ f ∈ L, f.t = 1 ∧ f.a = now) : Sd.acked ⟨n, L, wi, 0⟩ (n - 1) 0 (now + 1) = (⟨n, [], min (wi + 1) 8, 0⟩, 1) := by
  obtain ⟨h1, h2, -, -, -⟩ := right_bd hr
  have hq := (right_all hr).2.2
  have hg : ∀ x ∈ L, Sd.gone (n - 1) 0 x = true := fun x hx => by
    unfold Sd.gone
    rw [decide_eq_true (hq x hx).2.1, Bool.true_or]
  have hF : L.filter (fun x => !Sd.gone (n - 1) 0 x) = [] := by
    rw [List.filter_eq_nil_iff]
    intro x hx
    rw [hg x hx]
    simp
  unfold Sd.acked
  dsimp only
  rw [if_neg (by omega), hF, List.length_nil, hl, grown_all h2]
  refine Prod.ext rfl ?_
  dsimp only
  unfold Sd.tk
  refine tk_one n now L (-1) (Or.inr ⟨rfl, fun h0 => ?_⟩) (fun f hf => ⟨hg f hf, ha f hf⟩)
  rw [h0] at hl
  simp at hl
  omega

set_option maxRecDepth 100000 in
set_option maxHeartbeats 8000000 in
theorem walk (w : World) (rounds : Int) (w1' : (Lit.int .i64 rounds).wf = true) (now : Int) (w2' : (Lit.int .i64 now).wf = true) (a b d e' : Int) :
    Calls Try.prog 8 #[.int .i64 rounds, .int .i64 now, noteV a b d e'] w fun e w' => e = .returned (.bool true) ∧ Below w.heap.size w w' := by
  have zc := zero_chan
  have z1 := zero_fl
  have R5 := a_new w (nO a b d e')
  have BW := (Below.refl w.heap.size w).alloc (Nat.le_refl _) (nO a b d e')
  clear w1' w2'
  by_cases hgood : 0 ≤ rounds ∧ rounds ≤ 50 ∧ 0 ≤ now ∧ now ≤ 1073741824
  · obtain ⟨n0, n1, n2, n3⟩ := hgood
    obtain ⟨q, rfl⟩ : ∃ q : Nat, rounds = q := ⟨rounds.toNat, by omega⟩
    have d0 : decide ((q : Int) < 0) = false := decide_eq_false (by omega)
    have d1 : decide (50 < (q : Int)) = false := decide_eq_false (by omega)
    have d2 : decide (now < 0) = false := decide_eq_false (by omega)
    have d3 : decide (1073741824 < now) = false := decide_eq_false (by omega)
    go_enter Try.func8, Try.ntmps8
    go_wp2_with fail
    refine (small_any _).mono ?_
    rintro e w1 ⟨rfl, hb⟩
    have R5 := row_kept R5 hb (row_lt R5)
    have BW := BW.trans (hb.mono BW.size)
    clear hb
    go_wp2_with fail
    refine (chstart_any _).mono ?_
    rintro e w2 ⟨rfl, hb⟩
    have hg5 : w.heap.size < w2.heap.size := Nat.lt_of_lt_of_le (row_lt R5) hb.size
    have R5 := a_lift (p := chO 1 none 0 0 1 0 0 0 8 0 false) (row_kept R5 hb (row_lt R5))
    have R8 := a_new w2 (chO 1 none 0 0 1 0 0 0 8 0 false)
    have BW := (BW.trans (hb.mono BW.size)).alloc (BW.trans (hb.mono BW.size)).size (chO 1 none 0 0 1 0 0 0 8 0 false)
    have H8 := Lib.hid (And.intro R5 (And.intro R8 BW))
    clear hb R5 R8 BW
    go_wp2
    go_loopw [9, 10] (fun st i wr => ∃ (j sn : Nat) (A : Option Addr) (c : Nat) (wi s v r f : Int) (h : Bool), j ≤ q ∧ i = .int .i64 j ∧ st = .int .i64 sn ∧ sn ≤ 8 * j ∧ Hid (min (1 + (j : Int)) 8 = wi) ∧ Hid ((j = 0 ∧ s = 0 ∧ v = 0 ∧ r = 8 ∧ f = 0 ∧ h = false) ∨ (s = 8 ∧ v = 2 ∧ r = 3 ∧ f = 0 ∧ h = true)) ∧ wr.heap[w.heap.size]? = some (nO a b d e') ∧ (∃ n1 : Int, Hid (n1 = 1 + (sn : Int)) ∧ wr.heap[w2.heap.size]? = some (chO n1 A 0 c wi 0 s v r f h)) ∧ Below w.heap.size w wr) (fun _ i _ => q - (intOf i).toNat)
    case atStart =>
      obtain ⟨R5, R8, BW⟩ := H8.out
      exact ⟨0, 0, none, 0, 1, 0, 0, 8, 0, false, Nat.zero_le _, rfl, rfl, Nat.zero_le _, (by decide : min (1 + ((0 : Nat) : Int)) 8 = 1), (Or.inl ⟨rfl, rfl, rfl, rfl, rfl, rfl⟩ : (0 = 0 ∧ (0 : Int) = 0 ∧ (0 : Int) = 0 ∧ (8 : Int) = 8 ∧ (0 : Int) = 0 ∧ false = false) ∨ _), R5, ⟨1, (rfl : (1 : Int) = 1 + ((0 : Nat) : Int)), R8⟩, BW⟩
    case round =>
      obtain ⟨j, sn, A, c, wi, s, v, r, f, h, hj, rfl, rfl, hsn, HW, HE, R5, ⟨n1, HN1, R8⟩, BW⟩ := hrel
      have hwi : 1 ≤ wi ∧ wi ≤ 8 := by rw [← HW.out]; omega
      obtain ⟨wn, rfl⟩ : ∃ wn : Nat, wi = wn := ⟨wi.toNat, by omega⟩
      have hn1 : 1 ≤ n1 ∧ n1 ≤ 401 := by have := HN1.out; omega
      have HRN := Lib.hid (right_nil (n := n1) (wi := wn) (by omega) hwi)
      have HRM := Lib.hid (room_nil (n := n1) (wi := wn) (by omega) hwi)
      have L0 := Lib.hid (show ([] : List Fl).length = 0 from rfl)
      have hm2 : (if (8 : Int) < 1 + (j : Int) then 8 else 1 + (j : Int)) = (wn : Int) := by rw [← HW.out]; split <;> omega
      have hmin := run_min2 #[3, 3] 3 (1 + (j : Int)) 8 (wn : Int) hm2
      have K8 := row_cells R8
      clear hm2
      by_cases hjq : j < q
      · have hadd : IntKind.i64.wrap (1 + (j : Int)) = 1 + (j : Int) := IntWalk.i64_in _ (by omega)
        have q1 : (j : Int) < (q : Int) := by omega
        go_wp2_with fail
        refine (chroom_to HRN.out L0.out (show Fls _ A [] from Or.inl rfl) HRM.out).mono ?_
        rintro e w3 ⟨rfl, hb⟩
        have R5 := row_kept R5 hb (row_lt R5)
        have R8 := row_kept R8 hb (row_lt R8)
        have HR0 := Lib.hid (And.intro R5 (And.intro R8 (BW.trans (hb.mono BW.size))))
        clear hb K8 R5 R8 BW
        go_wp2
        clear hmin hadd
        go_loopw [9, 12] (fun st i wr => ∃ (kk : Nat) (L : List Fl) (A' : Option Addr) (c' : Nat) (nj : Int), kk ≤ wn ∧ i = .int .i64 kk ∧ st = .int .i64 ((sn + kk : Nat) : Int) ∧ Hid (nj = 1 + ((sn + kk : Nat) : Int)) ∧ Hid (Sd.right ⟨nj, L, wn, 0⟩ = true) ∧ Hid (Sd.room ⟨nj, L, wn, 0⟩ = (wn : Int) - kk) ∧ Hid (L.length = kk) ∧ Hid (∀ f ∈ L, f.t = 1 ∧ f.a = now + j) ∧ wr.heap[w.heap.size]? = some (nO a b d e') ∧ wr.heap[w2.heap.size]? = some (chO nj A' kk c' wn 0 s v r f h) ∧ Hid (FlsN w2.heap.size wr A' L) ∧ Below w.heap.size w wr) (fun _ i _ => wn - (intOf i).toNat)
        case atStart =>
          obtain ⟨R5, R8, BW⟩ := HR0.out
          exact ⟨0, [], A, c, n1, Nat.zero_le _, rfl, rfl, HN1, HRN, (by rw [HRM.out]; omega : Sd.room ⟨n1, [], wn, 0⟩ = (wn : Int) - ((0 : Nat) : Int)), L0, ((fun f hf => (by cases hf)) : ∀ f ∈ ([] : List Fl), f.t = 1 ∧ f.a = now + j), R5, R8, (⟨Or.inl rfl, Or.inl rfl⟩ : FlsN _ _ A []), BW⟩
        case round =>
          clear HR0
          obtain ⟨kk, L, A', c', nj, hk, rfl, rfl, HNJ, HRJ, HQJ, HLJ, HFJ, R5, R8, HNN, BW⟩ := hrel
          have hnj : 1 ≤ nj ∧ nj ≤ 1000 := by have := HNJ.out; omega
          have K5 := row_cells R5
          have K8 := row_cells R8
          have hadd2 : IntKind.i64.wrap (now + (j : Int)) = now + (j : Int) := IntWalk.i64_in _ (by omega)
          by_cases hkw : kk < wn
          · obtain ⟨p1, p2⟩ := push_eq (u := a) (v := b) (x := d) (y := e') (now := now + j) HRJ.out (by rw [HQJ.out]; omega)
            have p3 := push_right (u := a) (v := b) (x := d) (y := e') (now := now + j) HRJ.out (by omega)
            rw [p1] at p3
            have P1 := Lib.hid p1
            have P4 := Lib.hid (show (L ++ [(⟨nj, a, b, d, e', now + j, 1⟩ : Fl)]).length = kk + 1 by rw [List.length_append, HLJ.out]; rfl)
            have P2 := Lib.hid (And.intro p2 p3)
            have P5 := Lib.hid (show ∀ f ∈ L ++ [(⟨nj, a, b, d, e', now + j, 1⟩ : Fl)], f.t = 1 ∧ f.a = now + j from fun f hf => by
              rcases List.mem_append.1 hf with h | h
              · exact HFJ.out f h
              · rw [List.mem_singleton.1 h]; exact ⟨rfl, rfl⟩)
            clear p1 p2 p3
            have q2 : (kk : Int) < (wn : Int) := by omega
            have hs1 : IntKind.i64.wrap (((sn + kk : Nat) : Int) + 1) = nj := by rw [HNJ.out, IntWalk.i64_in _ (by omega)]; omega
            have hsq := HNJ.out
            obtain ⟨sk, hsk⟩ : ∃ sk : Int, ((sn + kk : Nat) : Int) = sk := ⟨_, rfl⟩
            have HSK := Lib.hid hsk
            rw [hsk] at hs1 ⊢
            clear hsk hsq
            go_wp2_with fail
            refine (chpush_to HRJ.out HLJ.out HNN.out.1 P1.out P4.out).mono ?_
            rintro e w4 ⟨A2, c2, rfl, hO, hb⟩
            have R5 := alloc2 (row_kept R5 hb (row_lt R5)) (chO (nj + 1) A2 (kk + 1) c2 wn 0 s v r f h) (flO nj a b d e' (now + j) 1)
            have hg8 := row_lt R8
            have hOb : ∀ b off, A2 = some ⟨b, off, none⟩ → b ≠ w2.heap.size := fun b off e => by have := (hO.block' e).1; simp only at this; omega
            have R8 := alloc2 (row_kept R8 hb (row_lt R8)) (chO (nj + 1) A2 (kk + 1) c2 wn 0 s v r f h) (flO nj a b d e' (now + j) 1)
            have BW := (BW.trans (hb.mono BW.size)).trans ((below_alloc2 w4 (chO (nj + 1) A2 (kk + 1) c2 wn 0 s v r f h) (flO nj a b d e' (now + j) 1)).mono (BW.trans (hb.mono BW.size)).size)
            have N2 : FlsN w2.heap.size _ A2 _ := ⟨Fls.alloc2 hO.fls (chO (nj + 1) A2 (kk + 1) c2 wn 0 s v r f h) (flO nj a b d e' (now + j) 1), Or.inr hOb⟩
            clear K5 K8 hb hO hOb
            have K13 := row_cells (a_lift (p := flO nj a b d e' (now + j) 1) (a_new w4 (chO (nj + 1) A2 (kk + 1) c2 wn 0 s v r f h)))
            have K14 := row_cells (a_new2 w4 (chO (nj + 1) A2 (kk + 1) c2 wn 0 s v r f h) (flO nj a b d e' (now + j) 1))
            obtain ⟨s0, s1, x0, x1, f0, f1, sz⟩ := rows1 R8
            have F5 := (setRow_far (t := chT) (cs := #[.int .i64 (nj + 1), .slice A2 (kk + 1) c2, .int .i64 wn, .int .i64 0, .int .i64 s, .int .i64 v, .int .i64 r, .int .i64 f, .bool h]) (show w.heap.size ≠ w2.heap.size by omega)).trans R5
            have F8 := setRow_row (t := chT) (cs := #[.int .i64 (nj + 1), .slice A2 (kk + 1) c2, .int .i64 wn, .int .i64 0, .int .i64 s, .int .i64 v, .int .i64 r, .int .i64 f, .bool h]) (row_lt R8)
            have FN := N2.set (t := chT) (cs := #[.int .i64 (nj + 1), .slice A2 (kk + 1) c2, .int .i64 wn, .int .i64 0, .int .i64 s, .int .i64 v, .int .i64 r, .int .i64 f, .bool h])
            have FB := setRow_below (g := w2.heap.size) (t := chT) (cs := #[.int .i64 (nj + 1), .slice A2 (kk + 1) c2, .int .i64 wn, .int .i64 0, .int .i64 s, .int .i64 v, .int .i64 r, .int .i64 f, .bool h]) BW (by omega)
            have HFIN := Lib.hid (And.intro F5 (And.intro F8 (And.intro FN FB)))
            clear F5 F8 FN FB R5 R8 BW N2 hg8
            go_wp2
            go_roundw
            case rel =>
              obtain ⟨F5, F8, FN, FB⟩ := HFIN.out
              exact ⟨kk + 1, _, A2, c2, nj + 1, by omega, by go_num, by have := HNJ.out; (congr 1; omega), (by have := HNJ.out; omega : nj + 1 = 1 + ((sn + (kk + 1) : Nat) : Int)), P2.out.2, (by have := P2.out.1; rw [HQJ.out] at this; rw [this]; omega : Sd.room _ = (wn : Int) - ((kk + 1 : Nat) : Int)), P4.out, P5.out, F5, F8, FN, FB⟩
            case measure => simp [intOf]; omega
          · obtain rfl : kk = wn := by omega
            have hack : Sd.acked ⟨nj, L, kk, 0⟩ (nj - 1) 0 (now + j + 1) = (⟨nj, [], min ((kk : Int) + 1) 8, 0⟩, 1) := acked_full HRJ.out (by rw [HLJ.out]) HFJ.out
            obtain ⟨w2', hw2⟩ : ∃ x, min ((kk : Int) + 1) 8 = x := ⟨_, rfl⟩
            rw [hw2, show nj - 1 = ((sn + kk : Nat) : Int) by have := HNJ.out; omega] at hack
            have hrt : (if (1 : Int) = -1 then (⟨s, v, r, f, h⟩ : Rtt) else Rtt.sample ⟨s, v, r, f, h⟩ 1) = ⟨8, 2, 3, 0, true⟩ := by
              rw [if_neg (by decide)]
              rcases HE.out with ⟨_, rfl, rfl, rfl, rfl, rfl⟩ | ⟨rfl, rfl, rfl, rfl, rfl⟩ <;> rfl
            have HAC := Lib.hid hack
            have HRT := Lib.hid hrt
            have hadd3 : IntKind.i64.wrap (now + (j : Int) + 1) = now + (j : Int) + 1 := IntWalk.i64_in _ (by omega)
            have HW2 := Lib.hid (show min (1 + ((j + 1 : Nat) : Int)) 8 = w2' by rw [← hw2, ← HW.out]; omega)
            clear hack hrt hw2
            go_wp2_with fail
            refine (chack_to HRJ.out HLJ.out HNN.out.1 (by omega) HAC.out (k' := 0) rfl HRT.out).mono ?_
            rintro e w4 ⟨A2, c2, rfl, -, hb⟩
            have R5 := row_kept R5 hb (row_lt R5)
            have hg8 := row_lt R8
            have R8 := row_kept R8 hb (row_lt R8)
            have BW := BW.trans (hb.mono BW.size)
            clear K5 K8 hb
            obtain ⟨s0, s1, x0, x1, f0, f1, sz⟩ := rows1 R8
            have F5 := (setRow_far (t := chT) (cs := #[.int .i64 nj, .slice A2 0 c2, .int .i64 w2', .int .i64 0, .int .i64 8, .int .i64 2, .int .i64 3, .int .i64 0, .bool true]) (show w.heap.size ≠ w2.heap.size by omega)).trans R5
            have F8 := setRow_row (t := chT) (cs := #[.int .i64 nj, .slice A2 0 c2, .int .i64 w2', .int .i64 0, .int .i64 8, .int .i64 2, .int .i64 3, .int .i64 0, .bool true]) (row_lt R8)
            have FB := setRow_below (g := w2.heap.size) (t := chT) (cs := #[.int .i64 nj, .slice A2 0 c2, .int .i64 w2', .int .i64 0, .int .i64 8, .int .i64 2, .int .i64 3, .int .i64 0, .bool true]) BW (by omega)
            have HF := Lib.hid (And.intro F5 (And.intro F8 FB))
            clear F5 F8 FB R5 R8 BW
            go_wp2_with fail
            obtain ⟨R5, R8, BW⟩ := HF.out
            clear s0 s1 x0 x1 f0 f1 sz
            refine (chidle_to (x := true) (by decide)).mono ?_
            rintro e w5 ⟨rfl, hb⟩
            have R5 := row_kept R5 hb (row_lt R5)
            have R8 := row_kept R8 hb (row_lt R8)
            have BW := BW.trans (hb.mono BW.size)
            clear hb
            have K8 := row_cells R8
            go_wp2
            go_roundw
            case rel => exact ⟨j + 1, sn + kk, A2, c2, w2', 8, 2, 3, 0, true, by omega, by go_num, rfl, by omega, HW2, (Or.inr ⟨rfl, rfl, rfl, rfl, rfl⟩ : _ ∨ ((8 : Int) = 8 ∧ (2 : Int) = 2 ∧ (3 : Int) = 3 ∧ (0 : Int) = 0 ∧ true = true)), R5, ⟨nj, HNJ, R8⟩, BW⟩
            case measure => simp [intOf]; omega
      · obtain rfl : j = q := by omega
        have hadd : IntKind.i64.wrap (1 + (j : Int)) = 1 + (j : Int) := IntWalk.i64_in _ (by omega)
        go_wp2_with fail
        refine (chroom_to HRN.out L0.out (show Fls _ A [] from Or.inl rfl) HRM.out).mono ?_
        rintro e w3 ⟨rfl, hb⟩
        go_wp2
        go_ret
        exact ⟨rfl, BW.trans (hb.mono BW.size)⟩
  · have h3 : rounds < 0 ∨ (0 ≤ rounds ∧ 50 < rounds) ∨ (0 ≤ rounds ∧ rounds ≤ 50 ∧ now < 0) ∨ (0 ≤ rounds ∧ rounds ≤ 50 ∧ 0 ≤ now ∧ 1073741824 < now) := by omega
    clear hgood
    rcases h3 with n0 | ⟨n0, n1⟩ | ⟨n0, n1, n2⟩ | ⟨n0, n1, n2, n3⟩
    all_goals
      go_enter Try.func8, Try.ntmps8
      go_wp2_with fail
      refine (small_any _).mono ?_
      rintro e w1 ⟨rfl, hb⟩
      go_wp2_with fail
      go_ret
      exact ⟨rfl, BW.trans (hb.mono BW.size)⟩
theorem own : ownKnob Try.prog.godebug = none := by kernel_rfl
theorem laid : laidOutB Try.prog = true := by kernel_rfl

set_option maxRecDepth 100000 in
theorem lifted (os : Os) (started : os.Started) (H : Type) (enc : TypeId × Value → H) :
    ReturnsInHanded {} Try.checked os 8 .any (Rows.channelGrowsSpec.pre6 enc Try.prog Try.f8 Rows.channelGrowsRow.domain false) (Rows.channelGrowsSpec.post enc Try.prog Try.f8 false true false false) := by
  refine law_lifted (C := Try.checked) (B := 4) own started (by kernel_rfl) Try.func8
    (ChangeSpec.witness6 (enc := enc) (C := Try.checked) false ⟨#[], #[.int .i64 0, .int .i64 0, .agg #[.int .i64 0, .int .i64 0, .int .i64 0, .int .i64 0]], []⟩ 8 (by kernel_rfl) (by kernel_rfl) (by kernel_rfl) (by kernel_rfl))
    rfl rfl Try.underlying4 laid (of_decide_eq_true (by kernel_rfl)) ?_ ?_
  · intro ds hl
    rw [Try.params8] at hl
    match ds, hl with
    | [d0, d1, d2], _ => rfl
  · intro W base args ds ps hval hA hlt hz
    rw [Try.params8] at hA hval
    obtain ⟨v0, vs0, d0, ds0, p0, q0, hargs, rfl, rfl, h0, r0⟩ := trodAll_cons hA
    obtain ⟨v1, vs1, d1, ds1, p1, q1, rfl, rfl, rfl, h1, r1⟩ := trodAll_cons r0
    obtain ⟨v2, vs2, d2, ds2, p2, q2, rfl, rfl, rfl, h2, r2⟩ := trodAll_cons r1
    obtain ⟨rfl, rfl, rfl⟩ := trodAll_nil r2
    obtain rfl : args = #[v0, v1, v2] := by cases args; simp_all
    obtain ⟨a0, rfl, rfl, rfl, w0⟩ := open_int Try.underlying3 (hval 0 3 v0 rfl rfl) h0
    obtain ⟨a1, rfl, rfl, rfl, w1⟩ := open_int Try.underlying3 (hval 1 3 v1 rfl rfl) h1
    obtain ⟨a2, b2, c2, e2, rfl⟩ := open_note (hval 2 34 v2 rfl rfl) h2
    exact walk W a0 w0 a1 w1 a2 b2 c2 e2

theorem over : Rows.channelGrowsRow.holds Try.pinned (OpenSpec.ofChange Rows.channelGrowsSpec) :=
  OpenClaim.holds_of_wide 8 Try.f8 rfl rfl rfl rfl rfl rfl rfl ⟨rfl, rfl, rfl, rfl, rfl⟩ rfl rfl rfl rfl rfl (by kernel_rfl) Try.func8 (by kernel_rfl)
    (of_decide_eq_true (by kernel_rfl)) (by unfold Func.isWrapper; first | (rw [if_pos (by decide +kernel)]; kernel_rfl) | (rw [if_neg (by decide +kernel)]; exact ⟨rfl, rfl⟩))
    (fun os started H enc _ => lifted os started H enc)

theorem proved : Rows.ChannelGrowsSaid := over
#print axioms proved
end Go.Proofs.Ytiecebncnflpiaa.channelGrows
