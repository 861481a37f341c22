/- slices.DeleteFunc at flights. -/
import Derived.Test.YtiecebncnflpiaaSend3
namespace Go.Proofs.Ytiecebncnflpiaa
open Go.ChangeShapes Go.WideShapes Go.ChangeAt Go.RowKit Go.Shelf

theorem zero_cells (k : Nat) : (Builtin.zeroCells (Value.agg #[.int .i64 0, .int .i64 0, .int .i64 0, .int .i64 0, .int .i64 0, .int .i64 0, .int .i64 0]).cells k).toList = List.replicate (k * 7) (Value.int .i64 0) := by
  apply List.ext_getElem
  · simp [Builtin.zeroCells, Value.cells]
  · intro i h1 h2
    have hs : (Value.agg #[.int .i64 0, .int .i64 0, .int .i64 0, .int .i64 0, .int .i64 0, .int .i64 0, .int .i64 0]).cells = #[.int .i64 0, .int .i64 0, .int .i64 0, .int .i64 0, .int .i64 0, .int .i64 0, .int .i64 0] := rfl
    simp only [Builtin.zeroCells, hs, Array.getElem_toList, Array.getElem_map, Array.getElem_range, List.getElem_replicate]
    have h7 : i % 7 < 7 := Nat.mod_lt _ (by decide)
    show #[Value.int .i64 0, .int .i64 0, .int .i64 0, .int .i64 0, .int .i64 0, .int .i64 0, .int .i64 0][i % 7]! = _
    generalize i % 7 = r at h7
    match r, h7 with
    | 0, _ => rfl
    | 1, _ => rfl
    | 2, _ => rfl
    | 3, _ => rfl
    | 4, _ => rfl
    | 5, _ => rfl
    | 6, _ => rfl
theorem clear_any (W : World) (ty : TypeId) (g o k c : Nat) (cs : Array Value) (hk : 0 < k) (h : W.heap[g]? = some (.cells cs flT)) (hs : o + k * 7 ≤ cs.size) :
    (Builtin.clear_ #[22] ty #[.slice (some ⟨g, o, none⟩) k c]).run Try.prog W = .ok (.tuple #[]) (setRow W g flT (Lib.lay cs o ((List.replicate (k * 7) (0 : Int)).map (Value.int .i64)))) := by
  have hv := zero_fl
  have hzc := zero_cells k
  have hst := run_storeCells_cells (P := Try.prog) g o (List.replicate (k * 7) (Value.int .i64 0)) 0 W (fun j hj => by
      rw [List.length_replicate] at hj
      rw [cell_of_row _ _ _ _ _ _ h]
      simp; omega) (fun j _ => frozen_row h _) (by
      intro v hv'
      rw [List.mem_replicate] at hv'
      rw [hv'.2]; rfl)
  simp only [Nat.add_zero] at hst
  rw [setCells_row _ _ W cs h] at hst
  rw [List.map_replicate]
  obtain ⟨k', rfl⟩ : ∃ k', k = k' + 1 := ⟨k - 1, by omega⟩
  simp [Builtin.clear_, run_underlying Try.underlying22, hv, hzc, hst]
theorem cur7 {cur : Array Value} {n i : Nat} {zs : List Int} (h : cur.toList.take (n * 7) = zs.map (Value.int .i64)) (hz : zs.length = n * 7) (hi : i < n) : ∃ y0 y1 y2 y3 y4 y5 y6 : Value,
    cur[i * 7]? = some y0 ∧ cur[i * 7 + 1]? = some y1 ∧ cur[i * 7 + 2]? = some y2 ∧ cur[i * 7 + 3]? = some y3 ∧ cur[i * 7 + 4]? = some y4 ∧ cur[i * 7 + 5]? = some y5 ∧ cur[i * 7 + 6]? = some y6 := by
  have g : ∀ t, t < n * 7 → ∃ y, cur[t]? = some y := fun t ht => by
    have h2 : (cur.toList.take (n * 7))[t]? = some (.int .i64 (zs.getD t 0)) := by
      rw [h]; simp [List.getD, hz, ht]
    rw [List.getElem?_take, if_pos ht, Array.getElem?_toList] at h2
    exact ⟨_, h2⟩
  obtain ⟨y0, h0⟩ := g (i * 7) (by omega)
  obtain ⟨y1, h1⟩ := g (i * 7 + 1) (by omega)
  obtain ⟨y2, h2⟩ := g (i * 7 + 2) (by omega)
  obtain ⟨y3, h3⟩ := g (i * 7 + 3) (by omega)
  obtain ⟨y4, h4⟩ := g (i * 7 + 4) (by omega)
  obtain ⟨y5, h5⟩ := g (i * 7 + 5) (by omega)
  obtain ⟨y6, h6⟩ := g (i * 7 + 6) (by omega)
  exact ⟨y0, y1, y2, y3, y4, y5, y6, h0, h1, h2, h3, h4, h5, h6⟩
theorem flf_set (M : List Fl) (i : Nat) (x : Fl) (hi : i < M.length) : (flf M).take (i * 7) ++ x.enc ++ (flf M).drop (i * 7 + x.enc.length) = flf (M.set i x) := by
  have e : M.set i x = M.take i ++ [x] ++ M.drop (i + 1) := by
    rw [List.set_eq_take_append_cons_drop, if_pos hi]
    simp
  unfold flf
  rw [e, flt_app, flt_app, flt_one, flt_take Fl.enc_len, show i * 7 + x.enc.length = (i + 1) * 7 by rw [Fl.enc_len]; omega, flt_drop Fl.enc_len]

theorem set_take (M : List Fl) (i : Nat) (x : Fl) (hi : i < M.length) : M.take i ++ [x] = (M.set i x).take (i + 1) := by
  have e0 : (M.take i).length = i := by rw [List.length_take]; omega
  have e1 : (M.take i).take (i + 1) = M.take i := List.take_of_length_le (by rw [e0]; omega)
  rw [List.set_eq_take_append_cons_drop, if_pos hi, List.take_append, e0, e1, show i + 1 - i = 1 by omega]
  rfl
theorem set_drop (M : List Fl) (i k : Nat) (x : Fl) (hi : i < M.length) (hk : i < k) : (M.set i x).drop k = M.drop k := by
  have e0 : (M.take i).length = i := by rw [List.length_take]; omega
  rw [List.set_eq_take_append_cons_drop, if_pos hi, List.drop_append, e0, List.drop_eq_nil_of_le (by rw [e0]; omega), List.nil_append]
  obtain ⟨d, rfl⟩ : ∃ d, k = i + 1 + d := ⟨k - (i + 1), by omega⟩
  rw [show i + 1 + d - i = d + 1 by omega, List.drop_succ_cons, List.drop_drop]
set_option maxHeartbeats 4000000 in
theorem delete_any (p : Fl → Bool) (g : Nat) (lb : Array Value) (eg : ∀ args w, (callFunc g args).run Try.prog w = .ok (.enter g args) w) (w : World) (base : Nat) (A : Option Addr) (n c : Nat) (l : List Fl) (hO : OwnF base w A n c l) (hk : n ≤ 1000000) (hp : Asks base w g lb p) {F : List Fl} (hF : l.filter (fun x => !p x) = F) {k : Nat} (hF2 : F.length = k) :
    Calls Try.prog 62 #[.slice A n c, .func (.func g) #[] lb] w fun e w' => e = .returned (.slice A k c) ∧ OwnF base w' A k c F ∧ Below base w w' := by
  have hbw : base ≤ w.heap.size := hO.2
  have hn := hO.len
  have hNl := hO.fls
  rcases idx_spec p l .zero with ⟨e1, hall⟩ | ⟨i0, hi0, e1, ht, hall⟩
  · have hall' : l.filter (fun x => !p x) = l := by
      have := filter_none (fun x => !p x) l .zero l.length (Nat.le_refl _) (fun j hj => by show (!p (l.getD j .zero)) = true; rw [hall j hj]; rfl)
      rwa [List.take_of_length_le (Nat.le_refl _)] at this
    obtain rfl : l = F := hall'.symm.trans hF
    obtain rfl : k = n := hF2.symm.trans hn
    have HO := Lib.hid hO
    have HI := Lib.hid e1
    have HP := Lib.hid (hp.mono (Below.refl base w) hbw)
    have HN := Lib.hid hNl
    clear hO hp hall hall' hF hNl e1
    go_enter Try.func62, Try.ntmps62
    go_wp2_with (first
      | (go_at_call 65; refine (index_any p g lb eg _ A k c l hn HN.out hk HP.out HI.out).mono ?_; rintro e w' ⟨rfl, hb'⟩))
    go_ret
    exact ⟨rfl, OwnR.below HO.out hb', hb'.mono hbw⟩
  · have hin : i0 < n := by omega
    have hne1 : ((i0 : Int) == -1) = false := beq_eq_false_iff_ne.2 (by omega)
    obtain ⟨gb, cur0, rfl, hg, hh0, -, -⟩ := hO.at0 (by omega)
    have HO := Lib.hid hO
    have HI := Lib.hid e1
    have HP0 := Lib.hid (hp.mono (Below.refl base w) hbw)
    have HP := Lib.hid hp
    have HN := Lib.hid hNl
    have Hn := Lib.hid hn
    have HF := Lib.hid hF
    have HF2 := Lib.hid hF2
    have HT := Lib.hid ht
    have HAll := Lib.hid hall
    have hcn := hO.1
    obtain ⟨hnc, hcm⟩ := OwnR.len hO
    unfold maxLen at hcm
    clear hO hp hF hF2 hNl e1 ht hall hn hh0 hcn
    go_enter Try.func62, Try.ntmps62
    go_wp2_with (first
      | (go_at_call 65; refine (index_any p g lb eg _ _ n c l Hn.out HN.out hk HP0.out HI.out).mono ?_; rintro e w' ⟨rfl, hb'⟩))
    have HO2 := Lib.hid (OwnR.below HO.out hb')
    have HB2 := Lib.hid (hb'.mono hbw)
    clear hb' HO HP0 HN
    go_loopw [5, 6] (fun si sj wr => ∃ (i j : Nat) (M : List Fl), i < j ∧ j ≤ n ∧ si = .int .i64 i ∧ sj = .int .i64 j ∧ Hid (OwnF base wr (some ⟨gb, 0, none⟩) n c M) ∧ Hid (M.take i = (l.take j).filter (fun x => !p x)) ∧ Hid (M.drop j = l.drop j) ∧ Below base w wr) (fun _ sj _ => n - (intOf sj).toNat)
    case atStart => exact ⟨i0, i0 + 1, l, by omega, by omega, rfl, by go_num, HO2.out, by
      show _ = _
      rw [filter_take _ l .zero i0 (by rw [Hn.out]; exact hin), filter_none _ l .zero i0 (by rw [Hn.out]; omega) (fun j hj => by show (!p (l.getD j .zero)) = true; rw [HAll.out j hj]; rfl), if_neg (by rw [HT.out]; decide), List.append_nil], rfl, HB2.out⟩
    case round =>
      obtain ⟨i, j, M, hij, hj, rfl, rfl, HM, HM1, HM2, hB⟩ := hrel
      have hMl : M.length = n := HM.out.len
      by_cases hjn : j < n
      · obtain ⟨b, off, hA, hb, c0, c1, c2, c3, c4, c5, c6⟩ := HM.out.fls.at (i := j) (by rw [hMl]; exact hjn)
        injection hA with hA
        injection hA with hA1 hA2
        subst hA1; subst hA2
        simp only [Nat.zero_add] at c0 c1 c2 c3 c4 c5 c6
        have hx : M.getD j .zero = l.getD j .zero := by
          have h1 := congrArg (fun L : List Fl => L.getD 0 .zero) HM2.out
          simpa [List.getD, List.getElem?_drop] using h1
        have HSn := Lib.hid (filter_take (fun x => !p x) l .zero j (by rw [Hn.out]; exact hjn))
        rw [hx] at c0 c1 c2 c3 c4 c5 c6
        have hMx : M.drop j = l.getD j .zero :: M.drop (j + 1) := by
          rw [← hx, List.drop_eq_getElem_cons (by omega)]
          simp [List.getD, hMl, hjn]
        have hLx : l.drop j = l.getD j .zero :: l.drop (j + 1) := by
          rw [List.drop_eq_getElem_cons (by rw [Hn.out]; exact hjn)]
          simp [List.getD, Hn.out, hjn]
        have HM3 := Lib.hid (show M.drop (j + 1) = l.drop (j + 1) by
          have h1 := HM2.out
          rw [hMx, hLx] at h1
          exact (List.cons.inj h1).2)
        generalize hf : l.getD j .zero = f at c0 c1 c2 c3 c4 c5 c6 HSn
        clear hx hf hMx hLx
        obtain ⟨r, hr⟩ : ∃ r, p f = r := ⟨_, rfl⟩
        obtain ⟨cur, -, hh, hcs, hct⟩ := OwnR.row HM.out rfl (by omega)
        have hb1 := hB.alloc (by have := hB.size; omega) (.cells #[.int .i64 f.q, .int .i64 f.u, .int .i64 f.v, .int .i64 f.s, .int .i64 f.c, .int .i64 f.a, .int .i64 f.t] flT)
        have hcall := HP.out _ f hb1
        rw [hr] at hcall
        have HCC := Lib.hid hcall
        have HB1 := Lib.hid hb1
        have Hr := Lib.hid hr
        have HR := Lib.hid (And.intro hh (And.intro hcs hct))
        have RX := Lib.hid (MapKept.heap_alloc wr (.cells #[.int .i64 f.q, .int .i64 f.u, .int .i64 f.v, .int .i64 f.s, .int .i64 f.c, .int .i64 f.a, .int .i64 f.t] flT)).1
        have HB := Lib.hid hB
        clear hcall hr hb1 hh hcs hct hB
        have q1 : (j : Int) < (n : Int) := by omega
        have q0 : (0 : Int) ≤ (j : Int) := by omega
        have q2 : (i : Int) < (n : Int) := by omega
        have q3 : (0 : Int) ≤ (i : Int) := by omega
        cases r
        · obtain ⟨y0, y1, y2, y3, y4, y5, y6, g0, g1, g2, g3, g4, g5, g6⟩ := cur7 HR.out.2.2 (by rw [flf_len, hMl]) (show i < n by omega)
          go_wp2_with (go_at_fn g; refine HCC.out.mono ?_; rintro e w5 ⟨rfl, hb5⟩; have KX := row_cells (row_kept RX.out hb5 (row_lt RX.out)); have H5 := row_kept ((Below.heap_alloc _ _ _ (row_lt HR.out.1)).trans HR.out.1) hb5 (by have := row_lt HR.out.1; simp; omega); obtain ⟨s0, s1, d0, d1, f0, f1, z1⟩ := rows1 H5)
          have hb6 : Below wr.heap.size wr w5 := ((Below.refl wr.heap.size wr).alloc (Nat.le_refl _) _).trans (hb5.mono (by simp))
          have hfin := OwnR.lay (OwnR.below HM.out hb6) hg H5 HR.out.2.1 HR.out.2.2 (i * 7) f.enc (by rw [Fl.enc_len]; omega)
          rw [flf_set M i f (by omega)] at hfin
          go_roundw
          case rel => exact ⟨i + 1, j + 1, M.set i f, by omega, by omega, by go_num, by go_num, hfin, by
            show _ = _
            rw [HSn.out, if_pos (by rw [Hr.out]; rfl), ← HM1.out, set_take M i f (by omega)], (set_drop M i (j + 1) f (by omega) (by omega)).trans HM3.out, setRow_below (HB1.out.trans (hb5.mono (by have := HB1.out.size; omega))) hg⟩
          case measure => simp [intOf]; omega
        · go_wp2_with (go_at_fn g; refine HCC.out.mono ?_; rintro e w5 ⟨rfl, hb5⟩)
          go_roundw
          case rel => exact ⟨i, j + 1, M, by omega, by omega, rfl, by go_num, OwnR.below HM.out (((Below.refl _ _).alloc (Nat.le_refl _) _).trans (hb5.mono (by simp))), by
            show _ = _
            rw [HSn.out, HM1.out, if_neg (by rw [Hr.out]; decide), List.append_nil], HM3.out, HB1.out.trans (hb5.mono (by have := HB1.out.size; omega))⟩
          case measure => simp [intOf]; omega
      · obtain rfl : j = n := by omega
        have hMF : M.take i = F := by
          rw [HM1.out, List.take_of_length_le (by rw [Hn.out]; exact Nat.le_refl _)]; exact HF.out
        have hki : k = i := by rw [← HF2.out, ← hMF, List.length_take, hMl]; omega
        subst hki
        obtain ⟨cur, -, hh, hcs, hct⟩ := OwnR.row HM.out rfl (by omega)
        have hcl := fun ty => clear_any wr ty gb (k * 7) (j - k) (c - k) cur (by omega) hh (by rw [hcs]; omega)
        have hlay := OwnR.lay HM.out hg hh hcs hct (k * 7) (List.replicate ((j - k) * 7) 0) (by rw [List.length_replicate]; omega)
        have hcut := OwnR.cut (i := k) hlay (by omega) (by omega)
        have ez : ((flf M).take (k * 7) ++ List.replicate ((j - k) * 7) 0 ++ (flf M).drop (k * 7 + (List.replicate ((j - k) * 7) (0 : Int)).length)).take (k * 7) = flf F := by
          have e0 : ((flf M).take (k * 7)).length = k * 7 := by rw [List.length_take, flf_len, hMl]; omega
          rw [List.append_assoc, List.take_append_of_le_length (by rw [e0]; exact Nat.le_refl _), List.take_of_length_le (by rw [e0]; exact Nat.le_refl _), flt_take Fl.enc_len, hMF]
        rw [ez] at hcut
        have hlow := setRow_below (t := flT) (cs := Lib.lay cur (k * 7) ((List.replicate ((j - k) * 7) (0 : Int)).map (Value.int .i64))) hB hg
        obtain ⟨W2, hW2⟩ : ∃ W2, setRow wr gb flT (Lib.lay cur (k * 7) ((List.replicate ((j - k) * 7) (0 : Int)).map (Value.int .i64))) = W2 := ⟨_, rfl⟩
        rw [hW2] at hcut hlow
        simp only [hW2] at hcl
        have HC := Lib.hid hcut
        have hck : ¬ c = k := by omega
        have hkc : k ≤ c := by omega
        have hkj : k ≤ j := by omega
        clear hcut hlay hh hcs hct ez hW2
        go_wp2
        go_ret
        exact ⟨rfl, HC.out, hlow⟩
end Go.Proofs.Ytiecebncnflpiaa
