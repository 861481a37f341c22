/- FieldTells holds for any bytes, any number in any size, and any acts: what a reader reads, and what is laid, is what the document says. No condition. -/
import Derived.Test.YtjfihfhklecciaaFieldHalf
import Derived.Test.YtjfihfhklecciaaMem6
import Derived.Deep.RegionHeld
namespace Go.Proofs.Ytjfihfhklecciaa.fieldTells
open Go.ChangeShapes Go.WideShapes Go.ChangeAt Go.RowKit

structure Far (V W : World) : Prop where
  far : Below V.heap.size V W
theorem cell_but {g b o : Nat} {w w' : World} (h : But g w w') (hb : b < w.heap.size) (hg : b ≠ g) : w'.cell? ⟨b, o, none⟩ = w.cell? ⟨b, o, none⟩ := by
  unfold World.cell?
  simp only [h.1 b hb hg]
/-- The row that is overwritten: none, or a block of the call's own. -/
theorem own_row {w : World} {base n c : Nat} {A : Option Addr} {zs : List Int} (h : OwnN .u8 5 base w A c zs) (hn : zs.length = n) : n = 0 ∨ ∃ gi cur, A = some ⟨gi, 0, none⟩ ∧ w.heap[gi]? = some (.cells cur 5) ∧ n ≤ cur.size ∧ base ≤ gi ∧ gi < w.heap.size := by
  rcases h.1.2 with ⟨h1, h0⟩ | ⟨g, cap, cur, hv, hb, hh, h3, h4, h5, h6⟩
  · exact Or.inl (by omega)
  · injection hv with e1 e2 e3
    exact Or.inr ⟨g, cur, e1, hh, by omega, hb, row_lt hh⟩

set_option maxRecDepth 10000 in
set_option maxHeartbeats 8000000 in
theorem walk (w : World)
    (A : Option Addr) (n cap : Nat) (zs : List Int) (hl : n ≤ cap) (hm : cap ≤ maxLen) (hn : zs.length = n) (hN : Nums .u8 w A zs) (hw : ∀ z ∈ zs, (Lit.int .u8 z).wf = true) (x : Int) (wx : (Lit.int .i64 x).wf = true) (s : Int) (ws : (Lit.int .i64 s).wf = true)
    (LA : Option Addr) (ln lcap : Nat) (D N : Nat → Int) (hll : ln ≤ lcap) (hlm : lcap ≤ maxLen) (hP : Acts w LA ln D N) :
    Calls Try.prog 3 #[.slice A n cap, .int .i64 x, .int .i64 s, .slice LA ln lcap] w fun e w' => e = .returned (.bool true) ∧ Below w.heap.size w w' := by
  have hx := wf64 wx
  have hbs : ∀ y ∈ zs, 0 ≤ y ∧ y ≤ 255 := fun y hy => by
    have := hw y hy
    simpa [Lit.wf, IntKind.min, IntKind.max, IntKind.signed, IntKind.bits] using this
  have Hn := Lib.hid hn
  have HN := Lib.hid hN
  have HP := Lib.hid hP
  have HBS := Lib.hid hbs
  unfold maxLen at hm hlm
  clear hn hN hw wx ws hP hbs
  by_cases h5 : 500 < n ∨ (n ≤ 500 ∧ 100 < ln)
  · rcases h5 with h5 | ⟨h5, h6⟩
    all_goals
      go_enter Try.func3, Try.ntmps3
      go_wp2_with (first
        | (go_at_call 8; refine (small_any _).mono ?_; rintro e w' ⟨rfl, hb⟩)
        )
      all_goals (go_ret; exact ⟨rfl, hb⟩)
  · have n5 : n ≤ 500 := by omega
    have l1 : ln ≤ 100 := by omega
    clear h5
    obtain ⟨i0, hi, hz0, hz1, hz2⟩ := info_parts info8
    have HI := Lib.hid (And.intro hi (And.intro hz0 (And.intro hz1 hz2)))
    clear hi hz0 hz1 hz2
    obtain ⟨k, hk⟩ : ∃ k : Nat, min (max s 1) 7 = (k : Int) := ⟨(min (max s 1) 7).toNat, by omega⟩
    obtain ⟨T, hT⟩ : ∃ T, strOfNums (zs ++ lay x k) = T := ⟨_, rfl⟩
    have HK := Lib.hid hk
    have HT := Lib.hid hT
    clear hk hT
    go_enter Try.func3, Try.ntmps3
    go_wp2_with fail
    refine (small_any _).mono ?_
    rintro e w1 ⟨rfl, B1⟩
    go_wp2_with (first
      | (at_builtin; refine wpList_append_rowA rfl _ _ 22 rfl i0 1 Try.underlying22 HI.out.1 HI.out.2.1 HI.out.2.2.1 HI.out.2.2.2 (by decide) 0 rfl rfl (OwnN.empty (base := w1.heap.size) (Nat.le_refl _)) A n _ zs rfl Hn.out ((HN.out.below B1).alloc _) (by simp <;> omega) w1.heap.size w1 (Nat.le_refl _) ((Below.refl _ _).alloc (Nat.le_refl _) _) ?_; intro Ai ci w2 hOi hbi)
      )
    have hOi : OwnN .u8 5 w1.heap.size w2 Ai ci zs := by simpa using hOi
    have B2 := B1.trans (hbi.mono B1.size)
    refine (fld04.openH _ Ai _ ci zs (by simpa using Hn.out) hOi.nums (by omega)).mono ?_
    rintro e w3 ⟨g1, A1, c1, rfl, hg1, H1, hb3, hA1⟩
    have B3 := B2.trans (hb3.mono B2.size)
    go_wp2_with fail
    refine (ref04.openH _ A n cap zs Hn.out (HN.out.below B3) (by omega)).mono ?_
    rintro e w4 ⟨g2, A2, c2, rfl, hg2, H2, hb4, hA2⟩
    have B4 := B3.trans (hb4.mono B3.size)
    have H1' := H1.below hb4
    have hNi := Lib.hid ((hOi.nums.below hb3).below hb4)
    have hNA := Lib.hid (HN.out.below B4)
    clear hNi hNA
    have hNi : Nums .u8 w4 Ai zs := (hOi.nums.below hb3).below hb4
    have hNA : Nums .u8 w4 A zs := HN.out.below B4
    have HP1 := Lib.hid (fun (W : World) (h : Far w4 W) => fld04.putH (c := ci) Hn.out (hNi.below h.far) (by omega) x s hx HK.out HT.out)
    have HP2 := Lib.hid (fun (W : World) (h : Far w4 W) => ref04.putH (c := cap) Hn.out (hNA.below h.far) (by omega) x s hx HK.out HT.out)
    have H0 : Far w4 w4.drew := ⟨below_drewN (Below.refl _ _) 1⟩
    have HKeep := Lib.hid (fun (W W' : World) (h : Far w4 W) (hb : Below W.heap.size W W') => show Far w4 W' from ⟨h.far.trans (hb.mono h.far.size)⟩)
    have HRow := Lib.hid (show n = 0 ∨ ∃ gi cur, Ai = some ⟨gi, 0, none⟩ ∧ w4.heap[gi]? = some (.cells cur 5) ∧ n ≤ cur.size ∧ w1.heap.size ≤ gi ∧ gi < w2.heap.size from by
      rcases own_row hOi Hn.out with h0 | ⟨gi, cur, h1, h2, h3, h4, h5⟩
      · exact Or.inl h0
      · exact Or.inr ⟨gi, cur, h1, row_kept (row_kept h2 hb3 h5) hb4 (Nat.lt_of_lt_of_le h5 hb3.size), h3, h4, h5⟩)
    have HFin := Lib.hid (fun (W : World) (h : Far w4 W) => show HalfA rdT W g1 A1 c1 zs false ∧ HalfA ref04.rdT W g2 A2 c2 zs false ∧ Below w.heap.size w W ∧ (n = 0 ∨ ∃ gi cur, Ai = some ⟨gi, 0, none⟩ ∧ W.heap[gi]? = some (.cells cur 5) ∧ n ≤ cur.size ∧ w1.heap.size ≤ gi ∧ gi < w2.heap.size) from
      ⟨H1'.below h.far, H2.below h.far, B4.trans (h.far.mono B4.size), by
        rcases HRow.out with h0 | ⟨gi, cur, h1, h2, h3, h4, h5⟩
        · exact Or.inl h0
        · exact Or.inr ⟨gi, cur, h1, row_kept h2 h.far (row_lt h2), h3, h4, h5⟩⟩)
    have HS := Lib.hid (And.intro (H1.lt) (And.intro hb3.size (And.intro hb4.size (And.intro hg1 (And.intro hg2 (And.intro hA1 (And.intro hA2 (And.intro H2.lt (And.intro hbi.size (B1.size))))))))))
    clear B1 B2 B3 B4 H1 H1' H2 hb3 hb4 hbi hNi hNA hOi hg1 hg2 hA1 hA2
    go_wp2_with fail
    go_region_held (fun W => Far w4 W)
      (first | exact H0 | exact hH | go_keep)
      (first
        | (go_at_call 11; with_reducible refine (HP1.out _ (by assumption)).mono ?_; rintro e w5 ⟨A5, c5, rfl, hT5, hF5, hb5⟩; have hH := HKeep.out _ _ (by assumption) hb5)
        | (go_at_call 12; with_reducible refine (HP2.out _ (by assumption)).mono ?_; rintro e w5 ⟨A5, c5, rfl, hT5, hF5, hb5⟩; have hH := HKeep.out _ _ (by assumption) hb5))
    all_goals
      rename_i hFar
      obtain ⟨G1, G2, GB, GR⟩ := HFin.out _ hFar
      have GS := hFar.far.size
      obtain ⟨p1, p2, p3, p4, p5, p6, p7, p8, p9, p10⟩ := HS.out
      have P6 := Lib.hid p6
      have P7 := Lib.hid p7
      clear p6 p7 HFin HKeep HP1 HP2 HRow HS hFar H0
      go_wp2_with fail
      go_loopw [13] (fun i wr => ∃ (m : Nat), m ≤ n ∧ i = .int .i64 m ∧ HalfA rdT wr g1 A1 c1 zs false ∧ HalfA ref04.rdT wr g2 A2 c2 zs false ∧ Below w.heap.size w wr ∧ w4.heap.size ≤ wr.heap.size ∧ (n = 0 ∨ ∃ gi cur, Ai = some ⟨gi, 0, none⟩ ∧ wr.heap[gi]? = some (.cells cur 5) ∧ n ≤ cur.size ∧ w1.heap.size ≤ gi ∧ gi < w2.heap.size)) (fun i _ => n - (intOf i).toNat)
      case atStart => exact ⟨0, Nat.zero_le _, rfl, G1, G2, GB, GS, GR⟩
      case round =>
        obtain ⟨m, hm2, rfl, L1, L2, LB, LS, LR⟩ := hrel
        clear G1 G2 GB GS GR
        by_cases hmn : m < n
        · rcases LR with h0 | ⟨gi, cur, hAi, hrow, hsz, hlo, hhi⟩
          · omega
          rw [hAi]
          obtain ⟨z, hz⟩ : ∃ z, cur[m]? = some z := ⟨cur[m]'(by omega), Array.getElem?_eq_getElem (by omega)⟩
          obtain ⟨s0, s1', c0, d1, f0, f1, z1⟩ := rows1 hrow
          have hcell : wr.cell? ⟨gi, m, none⟩ = some z := by rw [c0, hz]
          have q1 : (m : Int) < (n : Int) := by omega
          have q0 : (0 : Int) ≤ (m : Int) := by omega
          clear d1 f1 z1 s1' hcell
          go_wp2_with fail
          go_roundw
          case rel => exact ⟨m + 1, by omega, by go_num, L1.but But.set (by omega) (fun a h => by have := P6.out a h; omega), L2.but But.set (by omega) (fun a h => by have := P7.out a h; omega), setRow_below LB (by omega), by rw [setRow_size]; exact LS, Or.inr ⟨gi, _, by first | rfl | exact hAi, row_written hrow, by simpa using hsz, hlo, hhi⟩⟩
          case measure => simp [intOf]; omega
        · obtain rfl : m = n := by omega
          clear LR
          have M1 := L1.half (K := w4.heap.size) (fun a h => by have := P6.out a h; omega)
          have M2 := L2.half (K := w4.heap.size) (fun a h => by have := P7.out a h; omega)
          have hne : g2 ≠ g1 := by omega
          have hg1w : w.heap.size ≤ g1 := by omega
          have hg2w : w.heap.size ≤ g2 := by omega
          have hlz : zs.length ≤ 500 := by have := Hn.out; omega
          clear L1 L2
          go_wp2_with fail
          go_loopw [14] (fun i wr => ∃ (m : Nat) (rest : List Int) (f : Bool), m ≤ ln ∧ i = .int .i64 m ∧ Half rdT w4.heap.size wr g1 rest f ∧ Half ref04.rdT w4.heap.size wr g2 rest f ∧ rest.length ≤ 500 ∧ (∀ y ∈ rest, 0 ≤ y ∧ y ≤ 255) ∧ Below w.heap.size w wr ∧ w4.heap.size ≤ wr.heap.size) (fun i _ => ln - (intOf i).toNat)
          case atStart => exact ⟨0, zs, false, Nat.zero_le _, rfl, M1, M2, hlz, HBS.out, LB, LS⟩
          case round =>
            clear M1 M2 LB LS
            obtain ⟨j, rest, f, hj2, rfl, M1, M2, Ml, Mb, MB, MS⟩ := hrel
            by_cases hjl : j < ln
            · rcases HP.out with h0 | ⟨b, off, hLA, hlt, hc⟩
              · omega
              rw [hLA]
              obtain ⟨g0', g1', gN⟩ := hc j hjl
              have cD := (MB.cell (p := ⟨b, off + j * 2, none⟩) hlt).trans g0'
              have cN := (MB.cell (p := ⟨b, off + j * 2 + 1, none⟩) hlt).trans g1'
              have hcN := Lib.hid (fun (W : World) (h : Below w.heap.size w W) => (h.cell (p := ⟨b, off + j * 2 + 1, none⟩) hlt).trans g1')
              have hcD := Lib.hid (fun (W : World) (h : Below w.heap.size w W) => (h.cell (p := ⟨b, off + j * 2, none⟩) hlt).trans g0')
              generalize D j = dm at cD hcD
              generalize N j = nm at cN hcN gN
              have q1 : (j : Int) < (ln : Int) := by omega
              have q0 : (0 : Int) ≤ (j : Int) := by omega
              have MG := M2.lt
              clear g0' g1' hc hLA
              by_cases hd : dm = 0
              · subst hd
                have C1 := fld04.numH M1 Mb (by omega) nm
                have C2 := fun (W : World) (h : Half ref04.rdT w4.heap.size W g2 rest f) => ref04.numH h Mb (by omega) nm
                have Hrb := ndrop_bytes (f := f) (k := min (max nm 1) 7) Mb
                have Hrl := ndrop_len (f := f) (k := min (max nm 1) 7) Ml
                generalize ndrop rest f (min (max nm 1) 7) = rs at C1 C2 Hrb Hrl
                generalize nbad rest f (min (max nm 1) 7) = f' at C1 C2
                generalize be (ntake rest f (min (max nm 1) 7)) = v at C1 C2
                have HC2 := Lib.hid C2
                have HRB := Lib.hid Hrb
                clear C2 Hrb Mb
                go_wp2_with fail
                refine C1.mono ?_
                rintro e w5 ⟨rfl, K1, kb, kbel⟩
                have K2 := M1.but M2 hne kb
                have BB := kbel _ _ hg1w MB
                have cN5 := hcN.out _ BB
                clear C1 cN cD kbel M2
                go_wp2_with fail
                refine (HC2.out _ K2).mono ?_
                rintro e w6 ⟨rfl, K3, kb2, kbel2⟩
                have K4 := K2.but K1 (Ne.symm hne) kb2
                have B6 := kbel2 _ _ hg2w BB
                have S6 := Nat.le_trans MS (Nat.le_trans kb.2 kb2.2)
                clear HC2 cN5 kbel2 K1 K2 BB kb kb2 M1 MB MS
                go_wp2_with (first
                  | (go_at_call 17; refine (fld04.leftH K4).mono ?_; rintro e w' ⟨rfl, rfl⟩)
                  | (go_at_call 18; refine (ref04.leftH K3).mono ?_; rintro e w' ⟨rfl, rfl⟩)
                  | (go_at_call 19; refine (fld04.doneH K4).mono ?_; rintro e w' ⟨rfl, rfl⟩)
                  | (go_at_call 20; refine (ref04.doneH K3).mono ?_; rintro e w' ⟨rfl, rfl⟩)
                  )
                go_roundw
                case rel => exact ⟨j + 1, rs, f', by omega, by go_num, K4, K3, Hrl, HRB.out, B6, S6⟩
                case measure => simp [intOf]; omega
              · have hd1 : (dm == 0) = false := by simpa using hd
                have C1 := fld04.takeH M1 (by omega) nm
                have C2 := fun (W : World) (h : Half ref04.rdT w4.heap.size W g2 rest f) => ref04.takeH h (by omega) nm
                have Hrb := ndrop_bytes (f := f) (k := nm) Mb
                have Hrl := ndrop_len (f := f) (k := nm) Ml
                have Htl : (ntake rest f nm).length ≤ 500 := by
                  unfold ntake; split
                  · exact Nat.zero_le _
                  · rw [List.length_take]; omega
                generalize ndrop rest f nm = rs at C1 C2 Hrb Hrl
                generalize nbad rest f nm = f' at C1 C2
                generalize ntake rest f nm = tk at C1 C2 Htl
                obtain ⟨t, ht⟩ : ∃ t, strOfNums tk = t := ⟨_, rfl⟩
                have HTX := Lib.hid ht
                have HC2 := Lib.hid C2
                have HRB := Lib.hid Hrb
                have Mw := MB.size
                clear C2 Hrb Mb ht
                go_wp2_with fail
                refine C1.mono ?_
                rintro e w5 ⟨A5, c5, rfl, kO, K1, kb, kbel⟩
                have K2 := M1.but M2 hne kb
                have BB := kbel _ _ hg1w MB
                have cN5 := hcN.out _ BB
                have x5 : (convert 22 9 (.slice A5 tk.length c5)).run Try.prog w5 = .ok (.string t) w5 := by
                  rw [← HTX.out]; exact text_of_nums Try.underlying22 Try.underlying5 Try.underlying9 kO.nums rfl
                have S0 : (convert 22 9 (.slice A5 tk.length c5)).run Try.prog w5.drew = .ok (.string t) w5.drew ∧ w5.drew.cell? ⟨b, off + j * 2 + 1, none⟩ = some (.int .i64 nm) := ⟨by
                  rw [← HTX.out]; exact text_of_nums Try.underlying22 Try.underlying5 Try.underlying9 kO.nums.drew rfl, cN5⟩
                have K2d : Half ref04.rdT w4.heap.size w5.drew g2 rest f := K2
                have HX := Lib.hid (fun (W : World) (h : But g2 w5.drew W) => show (convert 22 9 (.slice A5 tk.length c5)).run Try.prog W = .ok (.string t) W from by
                  rw [← HTX.out]; exact text_of_nums Try.underlying22 Try.underlying5 Try.underlying9 (OwnN.but kO.drew h MG).nums rfl)
                have BBd : Below w.heap.size w w5.drew := below_drewN BB 1
                clear C1 cN cD kbel M2 x5 K2
                go_wp2_with fail
                go_region_held (fun W => (convert 22 9 (.slice A5 tk.length c5)).run Try.prog W = .ok (.string t) W ∧ W.cell? ⟨b, off + j * 2 + 1, none⟩ = some (.int .i64 nm))
                  (first | exact S0 | exact S6 | go_keep)
                  (first
                    | (go_at_call 16; with_reducible refine (HC2.out _ ?_).mono ?_; exact K2d; rintro e w6 ⟨A6, c6, rfl, kO6, K3, kb2, kbel2⟩; have hX6 := HX.out _ kb2; have BB6 := kbel2 _ _ hg2w BBd; have S6 := And.intro hX6 (hcN.out _ BB6); have hY6 := text_of_nums (P := Try.prog) (cap := c6) Try.underlying22 Try.underlying5 Try.underlying9 kO6.nums rfl; rw [HTX.out] at hY6))
                all_goals
                  have K4 : Half rdT w4.heap.size w6 g1 rs f' := Half.but K2d (show Half rdT w4.heap.size w5.drew g1 rs f' from K1) (Ne.symm hne) kb2
                  have kO2 : OwnN .u8 5 wr.heap.size w6 A5 c5 tk := OwnN.but kO.drew kb2 MG
                  have S6w : wr.heap.size ≤ w6.heap.size := Nat.le_trans kb.2 kb2.2
                  have g1lt := M1.lt
                  clear kO kO6 hX6 hY6 S6 S0 HX HC2 K1 K2d kb kb2 kbel2 BBd BB cN5 M1
                  go_wp2_with (first
                    | (at_builtin; refine wpList_append_num rfl _ _ 22 rfl i0 1 Try.underlying22 HI.out.1 HI.out.2.1 HI.out.2.2.1 HI.out.2.2.2 (by decide) _ rfl rfl (OwnN.alloc kO2 _) ⟨w6.heap.size, 0, none⟩ _ _ rfl (alloc_cell0 _ _ _ _ rfl) (by omega) wr.heap.size _ (Nat.le_refl _) (Below.refl _ _) ?_; intro A7 c7 w7 hO7 hb7; have Z7 : Below wr.heap.size w6 w7 := ((Below.refl wr.heap.size w6).alloc S6w _).trans hb7; have N4 := K4.below g1lt MS Z7; have N3 := K3.below MG MS Z7; have B7 := BB6.trans (Z7.mono Mw); have S7 := Nat.le_trans MS (Nat.le_trans S6w Z7.size); clear hO7 hb7 Z7)
                    | (go_at_call 17; refine (fld04.leftH N4).mono ?_; rintro e w' ⟨rfl, rfl⟩)
                    | (go_at_call 18; refine (ref04.leftH N3).mono ?_; rintro e w' ⟨rfl, rfl⟩)
                    | (go_at_call 19; refine (fld04.doneH N4).mono ?_; rintro e w' ⟨rfl, rfl⟩)
                    | (go_at_call 20; refine (ref04.doneH N3).mono ?_; rintro e w' ⟨rfl, rfl⟩)
                    )
                  go_roundw
                  case rel => exact ⟨j + 1, rs, f', by omega, by go_num, N4, N3, Hrl, HRB.out, B7, S7⟩
                  case measure => simp [intOf]; omega
            · obtain rfl : j = ln := by omega
              go_wp2
              go_ret
              exact ⟨rfl, MB⟩

theorem own : ownKnob Try.prog.godebug = none := by kernel_rfl
theorem laid : laidOutB Try.prog = true := by kernel_rfl

set_option maxRecDepth 100000 in
theorem lifted (os : Os) (started : os.Started) (H : Type) (enc : TypeId × Value → H) :
    ReturnsInHanded {} Try.checked os 3 .any (Rows.fieldTellsSpec.pre6 enc Try.prog Try.f3 Rows.fieldTellsRow.domain false) (Rows.fieldTellsSpec.post enc Try.prog Try.f3 false true false false) := by
  refine law_lifted (C := Try.checked) (B := 4) own started (by kernel_rfl) Try.func3
    (ChangeSpec.witness6 (enc := enc) (C := Try.checked) false ⟨#[], #[.slice none 0 0, .int .i64 0, .int .i64 0, .slice none 0 0], []⟩ 8 (by kernel_rfl) (by kernel_rfl) (by kernel_rfl) (by kernel_rfl))
    rfl rfl Try.underlying4 laid (of_decide_eq_true (by kernel_rfl)) ?_ ?_
  · intro ds hl
    rw [Try.params3] at hl
    match ds, hl with
    | [d0, d1, d2, d3], _ => rfl
  · intro W base args ds ps hval hA hlt hz
    rw [Try.params3] at hA hval
    obtain ⟨v0, vs0, d0, ds0, p0, q0, hargs, rfl, rfl, h0, r0⟩ := trodAll_cons hA
    obtain ⟨v1, vs1, d1, ds1, p1, q1, rfl, rfl, rfl, h1, r1⟩ := trodAll_cons r0
    obtain ⟨v2, vs2, d2, ds2, p2, q2, rfl, rfl, rfl, h2, r2⟩ := trodAll_cons r1
    obtain ⟨v3, vs3, d3, ds3, p3, q3, rfl, rfl, rfl, h3, r3⟩ := trodAll_cons r2
    obtain ⟨rfl, rfl, rfl⟩ := trodAll_nil r3
    obtain rfl : args = #[v0, v1, v2, v3] := by cases args; simp_all
    obtain ⟨A0, n0, cap0, zs0, rfl, hl0, hm0, hn0, hN0, hw0⟩ := open_nums Try.underlying22 Try.underlying5 (by kernel_rfl) (hval 0 22 v0 rfl rfl) h0
    obtain ⟨a1, rfl, rfl, rfl, w1⟩ := open_int Try.underlying3 (hval 1 3 v1 rfl rfl) h1
    obtain ⟨a2, rfl, rfl, rfl, w2⟩ := open_int Try.underlying3 (hval 2 3 v2 rfl rfl) h2
    obtain ⟨A3, n3, cap3, D3, N3, rfl, hl3, hm3, hP3⟩ := open_acts (hval 3 23 v3 rfl rfl) h3
    exact walk W A0 n0 cap0 zs0 hl0 hm0 hn0 hN0 hw0 a1 w1 a2 w2 A3 n3 cap3 D3 N3 hl3 hm3 hP3

theorem over : Rows.fieldTellsRow.holds Try.pinned (OpenSpec.ofChange Rows.fieldTellsSpec) :=
  OpenClaim.holds_of_wide 3 Try.f3 rfl rfl rfl rfl rfl rfl rfl ⟨rfl, rfl, rfl, rfl, rfl⟩ rfl rfl rfl rfl rfl (by kernel_rfl) Try.func3 (by kernel_rfl)
    (of_decide_eq_true (by kernel_rfl)) (by unfold Func.isWrapper; first | (rw [if_pos (by decide +kernel)]; kernel_rfl) | (rw [if_neg (by decide +kernel)]; exact ⟨rfl, rfl⟩))
    (fun os started H enc _ => lifted os started H enc)

theorem proved : Rows.FieldTellsSaid := over
#print axioms proved
end Go.Proofs.Ytjfihfhklecciaa.fieldTells
