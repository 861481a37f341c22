/- The document's own packets: their bytes. -/
import Derived.Test.YtnfdfnkhjlkdhaaWRef3
import Derived.Test.YtnfdfnkhjlkdhaaPutRef
namespace Go.Proofs.Ytnfdfnkhjlkdhaa
open Go.ChangeShapes Go.WideShapes Go.ChangeAt Go.RowKit
theorem own_one {W : World} {base : Nat} (hb : base ≤ W.heap.size) (z : Int) : OwnN .u8 5 base (W.alloc (.cells #[.int .u8 z] 5)) (some ⟨W.heap.size, 0, none⟩) 1 [z] :=
  ⟨⟨rfl, Or.inr ⟨W.heap.size, 1, #[.int .u8 z], rfl, hb, (MapKept.heap_alloc W _).1, Nat.le_refl _, by decide, rfl, rfl⟩⟩, by simp; omega⟩
theorem wright_kind {p : Pk} (h : p.right = true) : 1 ≤ p.kind ∧ p.kind ≤ 12 := by
  obtain ⟨-, h2, -⟩ := right_parts h
  rcases held_cases p.kind with h | h | h | h | h | h | h | h | h | h | h | h | h
  case inr.inr.inr.inr.inr.inr.inr.inr.inr.inr.inr.inr => exact absurd (held_none h) h2
  all_goals omega
theorem wlay1 {k : Int} (h0 : 0 ≤ k) (h1 : k < 256) : lay k 1 = [k] := by
  simp [lay, byt]; omega
theorem wpList_append_rowG2 {k : IntKind} {E : TypeId} {base : Nat} {w : World} {A : Option Addr} {c : Nat} {l : List Int} {P : Program} {Q : Exit → Act → World → Prop} {ops : Array Oper} {rest : List Oper} {o : Oper} {a : Act} (hgd : Region.wanted o (yielded ops a.tmps) = true) (s x : Operand) (t : TypeId)
    (ho : o.op = .call { callee := .builtin .append, args := #[s, x], argTypes := #[t, t] })
    (i : TypeInfo) (bytes : Nat) (ht : P.underlying t = some (.slice E)) (hi : P.info? E = some i) (hz : i.zero = some (.int k 0)) (hsize : i.size = 1) (hby : i.bytes = bytes) (hb8 : bytes ≤ 8)
    (n : Nat) (hn : l.length = n) (hs : a.eval s = .slice A n c) (hown : OwnN k E base w A c l)
    (ad : Option Addr) (m cc : Nat) (xs : List Int) (hx : a.eval x = .slice ad m cc) (hm : xs.length = m) (hcell : Nums k w ad xs) (hlen : l.length + m < 17592186044415)
    (B : Nat) (W0 : World) (hB : B ≤ base) (hbelow : Below B W0 w)
    (h : ∀ A' c' w', OwnN k E base w' A' c' (l ++ xs) → Below B W0 w' → w.grownBy w' (A.map (·.block)) → wpList P ops Q rest (a.put o.dst (.slice A' (n + m) c')) w') : wpList P ops Q (o :: rest) a w :=
  BigFrame.wpList_want hgd fun _ hK => wp_append_rowA s x t ho i bytes ht hi hz hsize hby hb8 n hn hs hown ad m cc xs hx hm hcell hlen B W0 hB hbelow fun A' c' w' h1 h2 h3 => hK _ _ (h A' c' w' h1 h2 h3)
theorem rparts_apart {w : World} {A : Option Addr} {c base gA : Nat} {bs : List Int} {l : List Pt5} {t : TypeId} (hO : OwnN .u8 5 base w A c bs) (hb : 0 < bs.length) (hl : l ≠ []) (h : w.heap[gA]? = some (.cells (l.flatMap Pt5.rc).toArray t)) : some gA ≠ A.map (·.block) := by
  intro he
  cases A with
  | none => cases he
  | some a =>
    rcases hO.1.2 with ⟨h1, _⟩ | ⟨b, cap, cur, hv, _, hh, _, _, _, ht⟩
    · cases h1
    · injection hv with hA
      injection hA with hA
      subst hA
      injection he with he
      simp at he
      subst he
      have := h.symm.trans hh
      injection this with this
      injection this with h1 h2
      subst h1
      obtain ⟨x, r, rfl⟩ := List.exists_cons_of_ne_nil hl
      obtain ⟨b0, bs', rfl⟩ := List.exists_cons_of_length_pos hb
      have h0 := congrArg (·[0]?) ht
      simp [Pt5.rc] at h0
theorem rwenc_bad (p : Pk) (hp : p.Wf) (hr : p.right = false) (w : World) : Calls Try.prog 12 #[.agg (pcs p).toArray] w fun e w' => e = .returned (.tuple #[.slice none 0 0, .int .i64 1]) ∧ Below w.heap.size w w' := by
  have R0 := row_new (W := w) (cs := (pcs p).toArray) (t := pkT) (m := (0, 0))
  have B0 : Below w.heap.size w (w.alloc (.cells (pcs p).toArray pkT)) := (Below.refl _ _).alloc (Nat.le_refl _) _
  have HP := Lib.hid hp
  have Hr := Lib.hid hr
  clear hp hr
  go_enter Try.func12, Try.ntmps12
  go_wp2_with (first
    | ((refine wpl_pk ?_ (.tmp 1) ?_ w.heap.size p HP.out ?_ R0 ?_); (rfl); (rfl); (rfl)))
  refine (rwright_any p HP.out _).mono ?_
  rintro e w1 ⟨rfl, hB1⟩
  rw [Hr.out]
  go_wp2
  go_ret2
  exact ⟨rfl, B0.trans (hB1.mono B0.size)⟩
set_option maxRecDepth 10000 in
set_option maxHeartbeats 8000000 in
theorem rwenc_ok (p : Pk) (hp : p.Wf) (hrg : p.Rng) (hr : p.right = true) (w : World) : Calls Try.prog 12 #[.agg (pcs p).toArray] w fun e w' => ∃ A c, e = .returned (.tuple #[.slice A p.enc.length c, .int .i64 0]) ∧ OwnN .u8 5 w.heap.size w' A c p.enc ∧ Below w.heap.size w w' := by
  have R0 := row_new (W := w) (cs := (pcs p).toArray) (t := pkT) (m := (0, 0))
  have B0 : Below w.heap.size w (w.alloc (.cells (pcs p).toArray pkT)) := (Below.refl _ _).alloc (Nat.le_refl _) _
  obtain ⟨i0, hi, hz0, hz1, hz2⟩ := info_parts info8
  have HI := Lib.hid (And.intro hi (And.intro hz0 (And.intro hz1 hz2)))
  clear hi hz0 hz1 hz2
  obtain ⟨K, hK⟩ : ∃ K, p.h.getD 0 0 = K := ⟨_, rfl⟩
  have hk12 : 1 ≤ K ∧ K ≤ 12 := by rw [← hK]; exact wright_kind hr
  obtain ⟨l, hl⟩ : ∃ l, held K = l := ⟨_, rfl⟩
  obtain ⟨n, hn⟩ : ∃ n, l.length = n := ⟨_, rfl⟩
  have hn7 : n ≤ 7 := by rw [← hn, ← hl]; exact held_len K
  have Hok := Lib.hid (show ∀ x ∈ l, x.Ok by rw [← hl]; exact held_ok K)
  have Henc := Lib.hid (show p.laid l = p.enc by unfold Pk.enc; rw [show p.kind = K from hK, hl])
  have Hnil := Lib.hid (show p.laid [] = [K] by unfold Pk.laid; rw [show p.kind = K from hK]; rw [wlay1 (by omega) (by omega)]; simp)
  have hw8 : IntKind.u8.wrap K = K := by
    have hc : K = 1 ∨ K = 2 ∨ K = 3 ∨ K = 4 ∨ K = 5 ∨ K = 6 ∨ K = 7 ∨ K = 8 ∨ K = 9 ∨ K = 10 ∨ K = 11 ∨ K = 12 := by omega
    rcases hc with h | h | h | h | h | h | h | h | h | h | h | h <;> rw [h] <;> rfl
  have HP := Lib.hid hp
  have Hr := Lib.hid hr
  have HRg := Lib.hid hrg
  have Hl := Lib.hid hl
  have Hn := Lib.hid hn
  have HC0 := Lib.hid (show ∀ W : World, W.heap[w.heap.size]? = some (.cells (pcs p).toArray pkT) → W.cell? ⟨w.heap.size, 0, none⟩ = some (.int .i64 K) from fun W h => by rw [pk_cell h hp 0 (by decide), hK])
  clear hp hr hrg hK hl hn
  go_enter Try.func12, Try.ntmps12
  go_wp2_with (first
    | ((refine wpl_pk ?_ (.tmp 1) ?_ w.heap.size p HP.out ?_ R0 ?_); (rfl); (rfl); (rfl)))
  refine (rwright_any p HP.out _).mono ?_
  rintro e w1 ⟨rfl, hB1⟩
  rw [Hr.out]
  have R1 := row_kept R0 hB1 (row_lt R0)
  have B1 := B0.trans (hB1.mono B0.size)
  have c1 := HC0.out _ R1
  have hlt := row_lt R1
  clear hB1 B0 R0
  go_upto_region 4 with (fail)
  have HO2 := own_one (W := w1) (base := w1.heap.size) (Nat.le_refl _) K
  have AN := (Below.refl w1.heap.size w1).alloc (Nat.le_refl _) (.cells #[.int .u8 K] 5)
  have R2 := row_kept R1 AN hlt
  have B2 := B1.trans (AN.mono B1.size)
  have c2 := HC0.out _ R2
  generalize w1.alloc (.cells #[.int .u8 K] 5) = w2 at HO2 R2 B2 c2 ⊢
  clear AN B1 R1 c1
  go_wp2_with fail
  refine (rparts_any K w2).mono ?_
  rintro e w3 ⟨A3, rfl, HA, hB3⟩
  rw [Hl.out, Hn.out]
  rw [Hl.out] at HA
  have R3 := row_kept R2 hB3 (row_lt R2)
  have B3 := B2.trans (hB3.mono B2.size)
  have HO3 := Lib.hid (own_up HO2 hB3 (Nat.le_refl _))
  have HR3 := Lib.hid (And.intro R3 (And.intro B3 HA))
  clear hB3 B2 R2 c2 HO2 R3 B3 HA
  go_wp2_with fail
  go_loopw [4, 6] (fun v i wr => ∃ (k : Nat) (A : Option Addr) (c : Nat), k ≤ n ∧ i = .int .i64 k ∧ v = .slice A (p.laid (l.take k)).length c ∧ OwnN .u8 5 w1.heap.size wr A c (p.laid (l.take k)) ∧ wr.heap[w.heap.size]? = some (.cells (pcs p).toArray pkT) ∧ RPtsAt wr A3 l ∧ Below w.heap.size w wr) (fun _ i _ => n - (intOf i).toNat)
  case atStart => exact ⟨0, some ⟨w1.heap.size, 0, none⟩, 1, Nat.zero_le _, rfl, (by rw [List.take_zero, Hnil.out]; rfl), (by rw [List.take_zero, Hnil.out]; exact HO3.out), HR3.out.1, HR3.out.2.2, HR3.out.2.1⟩
  case round =>
    obtain ⟨k, A, c, hk, rfl, rfl, hO, R1, HA, hB⟩ := hrel
    clear HR3 HO3
    have HO := Lib.hid hO
    clear hO
    have hlen1 : 0 < (p.laid (l.take k)).length := by unfold Pk.laid; rw [List.length_append, lay_len]; omega
    have hlen2 : (p.laid (l.take k)).length ≤ 1000000 := by
      have := Pk.laid_len HP.out (l.take k) (fun x hx => Hok.out x (List.mem_of_mem_take hx))
      have h2 : (l.take k).length ≤ 7 := by rw [List.length_take]; omega
      omega
    by_cases hkn : k < n
    · obtain ⟨x, hx⟩ : ∃ x, l[k]? = some x := ⟨_, List.getElem?_eq_getElem (by rw [Hn.out]; exact hkn)⟩
      have hxo := Hok.out x (List.mem_of_getElem? hx)
      have hl0 : l ≠ [] := fun h0 => by rw [h0] at hx; cases hx
      rcases HA with h0 | ⟨gA, tA, rfl, RA⟩
      · exact absurd h0 hl0
      have HXO := Lib.hid hxo
      have Hsnoc := Lib.hid (show p.laid (l.take (k + 1)) = p.laid (l.take k) ++ x.put p by rw [take_snoc5 hx, Pk.laid_snoc])
      have q0 : (0 : Int) ≤ (k : Int) := by omega
      have q1 : (k : Int) < (n : Int) := by omega
      have q2 : (n : Int) ≤ 7 := by omega
      have hne1 : some w.heap.size ≠ A.map (·.block) := by
        intro he
        cases A with
        | none => cases he
        | some a =>
          have he' : w.heap.size = a.block := Option.some.inj he
          have := (HO.out.block' rfl).1
          omega
      have hne2 := rparts_apart HO.out hlen1 hl0 RA
      have HC := Lib.hid (show ∀ W : World, W.heap[gA]? = some (.cells (l.flatMap Pt5.rc).toArray tA) → (W.cell? ⟨gA, k * 4, none⟩ = some (.int .i64 ((x.j : Int) - 1)) ∧ W.cell? ⟨gA, k * 4 + 1, none⟩ = some (.int .i64 (if x.j ≤ 11 then x.sz else if x.j = 12 then 16 else 8))) from fun W h => ⟨by have := rcell h hx 0 (by decide); simpa [Pt5.rc] using this, by have := rcell h hx 1 (by decide); simpa [Pt5.rc] using this⟩)
      obtain ⟨m, hm⟩ : ∃ m, (p.laid (l.take k)).length = m := ⟨_, rfl⟩
      obtain ⟨bs, hbs⟩ : ∃ bs, p.laid (l.take k) = bs := ⟨_, rfl⟩
      rw [hm] at hlen1 hlen2 ⊢
      rw [hbs] at HO Hsnoc hm
      have Hm := Lib.hid hm
      have Hlen := Lib.hid (show bs.length + 16 < 17592186044415 by omega)
      clear hx hxo hm hbs hl0
      have hFin := Lib.hid (show ∀ (W : World) (A' : Option Addr) (c' : Nat) (xs : List Int) (m' : Nat), x.put p = xs → m + xs.length = m' → OwnN .u8 5 w1.heap.size W A' c' (bs ++ xs) → W.heap[w.heap.size]? = some (.cells (pcs p).toArray pkT) → W.heap[gA]? = some (.cells (l.flatMap Pt5.rc).toArray tA) → Below w.heap.size w W →
        (k + 1 ≤ n ∧ Value.slice A' m' c' = .slice A' (p.laid (l.take (k + 1))).length c' ∧ OwnN .u8 5 w1.heap.size W A' c' (p.laid (l.take (k + 1))) ∧ W.heap[w.heap.size]? = some (.cells (pcs p).toArray pkT) ∧ RPtsAt W (some ⟨gA, 0, none⟩) l ∧ Below w.heap.size w W) from fun W A' c' xs m' h1 h2 hO r1 ra hb =>
        ⟨by omega, by rw [Hsnoc.out, h1, List.length_append, Hm.out, h2], by rw [Hsnoc.out, h1]; exact hO, r1, Or.inr ⟨gA, tA, rfl, ra⟩, hb⟩)
      have hj1 := HXO.out.j1
      have hj2 := HXO.out.j2
      have hcase : (x.j = 12) ∨ (x.j = 13) ∨ (x.j ≤ 11) := by omega
      have hw1 : w.heap.size ≤ w1.heap.size := Nat.le_of_lt hlt
      rcases hcase with hj | hj | hj
      · have C0 := (HC.out _ RA).1
        rw [show ((x.j : Int) - 1) = 11 by omega] at C0
        have hput : x.put p = p.s := by unfold Pt5.put; rw [if_neg (by omega), if_pos hj]
        have hNS := nums_secret R1 HP.out
        clear hj hj1 hj2
        go_wp2_with (first
          | (at_builtin; refine wpList_append_rowG2 rfl (.tmp 44) (.tmp 46) 26 rfl i0 1 Try.underlying26 HI.out.1 HI.out.2.1 HI.out.2.2.1 HI.out.2.2.2 (by decide) m Hm.out rfl HO.out (some ⟨w.heap.size, 12, none⟩) 16 16 p.s rfl HP.out.s hNS Hlen.out w.heap.size w hw1 hB ?_; intro A4 c4 w4 hO4 hB4 hG4)
          )
        have h := hFin.out w4 A4 c4 p.s (m + 16) hput (by rw [HP.out.s]) hO4 ((hG4.block _ (row_lt R1) hne1).trans R1) ((hG4.block _ (row_lt RA) hne2).trans RA) hB4
        go_roundw
        case rel => exact ⟨k + 1, A4, c4, h.1, by go_num, h.2⟩
        case measure => simp [intOf]; omega
      · have C0 := (HC.out _ RA).1
        rw [show ((x.j : Int) - 1) = 12 by omega] at C0
        have hput : x.put p = p.t := by unfold Pt5.put; rw [if_neg (by omega), if_neg (by omega)]
        have hNS := nums_tag R1 HP.out
        have Hlen8 := Lib.hid (show bs.length + 8 < 17592186044415 by have := Hlen.out; omega)
        clear hj hj1 hj2
        go_wp2_with (first
          | (at_builtin; refine wpList_append_rowG2 rfl (.tmp 50) (.tmp 52) 26 rfl i0 1 Try.underlying26 HI.out.1 HI.out.2.1 HI.out.2.2.1 HI.out.2.2.2 (by decide) m Hm.out rfl HO.out (some ⟨w.heap.size, 28, none⟩) 8 8 p.t rfl HP.out.t hNS Hlen8.out w.heap.size w hw1 hB ?_; intro A4 c4 w4 hO4 hB4 hG4)
          )
        have h := hFin.out w4 A4 c4 p.t (m + 8) hput (by rw [HP.out.t]) hO4 ((hG4.block _ (row_lt R1) hne1).trans R1) ((hG4.block _ (row_lt RA) hne2).trans RA) hB4
        go_roundw
        case rel => exact ⟨k + 1, A4, c4, h.1, by go_num, h.2⟩
        case measure => simp [intOf]; omega
      · obtain ⟨v, hv⟩ : ∃ v, ((x.j : Int) - 1) = v := ⟨_, rfl⟩
        have HV := Lib.hid hv
        have HJ := Lib.hid (And.intro hj1 hj)
        obtain ⟨y, hy⟩ : ∃ y, p.h.getD x.j 0 = y := ⟨_, rfl⟩
        have Hy := Lib.hid hy
        have Wy := Lib.hid (show -9223372036854775808 ≤ y ∧ y ≤ 9223372036854775807 by rw [← hy]; exact HRg.out x.j)
        obtain ⟨sz, hsz⟩ : ∃ sz : Nat, x.sz = (sz : Int) := by rcases HXO.out.sz hj with h | h <;> exact ⟨_, h⟩
        have hsz7 : 1 ≤ sz ∧ sz ≤ 7 := by rcases HXO.out.sz hj with h | h <;> omega
        have v11 : (v == 11) = false := beq_eq_false_iff_ne.2 (by omega)
        have v12 : (v == 12) = false := beq_eq_false_iff_ne.2 (by omega)
        rw [hv, if_pos hj, hsz] at HC
        have hput : x.put p = lay y sz := by unfold Pt5.put; rw [if_pos hj, hy, hsz]; rfl
        have C0 := (HC.out _ RA).1
        have Hsz := Lib.hid hsz7
        clear hv hj1 hj2 hj hy hsz hsz7
        go_upto_region 9 with (fail)
        have HU := Lib.hid (show ∀ u : Over wr.heap.size wr, u.val.heap[w.heap.size]? = some (.cells (pcs p).toArray pkT) from fun u => row_kept R1 u.below (row_lt R1))
        have HUC := fun u : Over wr.heap.size wr => (HC.out _ (row_kept RA u.below (row_lt RA))).1
        have HUD := fun u : Over wr.heap.size wr => (HC.out _ (row_kept RA u.below (row_lt RA))).2
        have HG := Lib.hid (show ∀ u : Over wr.heap.size wr, Calls Try.prog 24 #[.agg (pcs p).toArray, .int .i64 v] u.val fun e w' => e = .returned (.int .i64 y) ∧ Below u.val.heap.size u.val w' from fun u => rget_any p HP.out x.j HJ.out.1 HJ.out.2 u.val v HV.out y Hy.out)
        refine region_tail_class (fun u : Over wr.heap.size wr => u.val) ⟨wr.drew, below_drewN (Below.refl _ _) 1⟩ rfl 13 (by kernel_rfl) (by kernel_rfl) ?_
        simp only [List.take_succ_cons, List.take_zero, List.drop_succ_cons, List.drop_zero]
        repeat (first
          | ((with_reducible refine wpQuiet_pk' ?_ (.tmp 1) ?_ w.heap.size p HP.out ?_ (fun u => HU.out u) ?_); (rfl); (rfl); (rfl); (conv => arg 6; simp only [Act.put, List.setIfInBounds_toArray, List.set_cons_succ, List.set_cons_zero]))
          | go_big_quiet_step ((first
            | (go_at_call 24; with_reducible exact over_left (Nat.le_refl _) (HG.out _)))))
        with_reducible refine wpQuiet_nil ?_
        rintro _ ⟨u, rfl⟩
        have u2 := u.below
        generalize u.val = w2' at u2 ⊢
        have R1 := row_kept R1 u2 (row_lt R1)
        have RA := row_kept RA u2 (row_lt RA)
        have B2 := hB.trans (u2.mono hB.size)
        have HO2 := Lib.hid (own_up HO.out u2 (Nat.le_refl _))
        have hwr := HO.out.2
        clear HU HUC HUD HG C0 u2 hB
        go_wp2_with fail
        refine (ref04.put_any w2' A m c bs Hm.out HO2.out.nums (by omega) y sz Wy.out sz (by have := Hsz.out; omega)).mono ?_
        rintro e w4 ⟨A4, c4, rfl, hO4, hB4⟩
        have h := Lib.hid (hFin.out w4 A4 c4 (lay y sz) (m + sz) hput (by rw [lay_len]) (OwnN.lower hO4 HO2.out.2) (row_kept R1 hB4 (row_lt R1)) (row_kept RA hB4 (row_lt RA)) (B2.trans (hB4.mono B2.size)))
        clear hO4 hB4 HO2 B2
        go_wp2_with fail
        go_roundw
        case rel => exact ⟨k + 1, A4, c4, h.out.1, by go_num, h.out.2⟩
        case measure => simp [intOf]; omega
    · obtain rfl : k = n := by omega
      rw [List.take_of_length_le (by rw [Hn.out]; exact Nat.le_refl _)] at HO ⊢
      rw [Henc.out] at HO ⊢
      clear hlen1 hlen2
      go_wp2
      go_ret2
      exact ⟨A, c, rfl, OwnN.lower HO.out (by omega), hB⟩
end Go.Proofs.Ytnfdfnkhjlkdhaa
