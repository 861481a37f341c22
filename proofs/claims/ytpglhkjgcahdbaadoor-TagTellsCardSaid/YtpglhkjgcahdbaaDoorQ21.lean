/- Texts of this proof, merged: WRef4, TagRef2. -/
import Derived.Test.YtpglhkjgcahdbaaDoorQ20
import Derived.Test.YtpglhkjgcahdbaaDoorQ13
import Derived.Test.YtpglhkjgcahdbaaDoorQ16
/- The document's own packets: their bytes. -/
namespace Go.Proofs.YtpglhkjgcahdbaaDoor
open Go.ChangeShapes Go.WideShapes Go.ChangeAt Go.RowKit
theorem own_one {W : World} {base : Nat} (hb : base ≤ W.heap.size) (z : Int) : OwnN .u8 5 base (W.alloc (.cells #[.int .u8 z] 5)) (some ⟨W.heap.size, 0, none⟩) 1 [z] :=
  ⟨⟨rfl, Or.inr ⟨W.heap.size, 1, #[.int .u8 z], rfl, hb, (MapKept.heap_alloc W _).1, Nat.le_refl _, by decide, rfl, rfl⟩⟩, by simp; omega⟩
theorem wright_kind {p : Pk} (h : p.right = true) : 1 ≤ p.kind ∧ p.kind ≤ 12 := by
  obtain ⟨-, h2, -⟩ := right_parts h
  rcases held_cases p.kind with h | h | h | h | h | h | h | h | h | h | h | h | h
  case inr.inr.inr.inr.inr.inr.inr.inr.inr.inr.inr.inr => exact absurd (held_none h) h2
  all_goals omega
theorem wlay1 {k : Int} (h0 : 0 ≤ k) (h1 : k < 256) : lay k 1 = [k] := by
  simp [lay, byt]; omega
theorem wpList_append_rowG2 {k : IntKind} {E : TypeId} {base : Nat} {w : World} {A : Option Addr} {c : Nat} {l : List Int} {P : Program} {Q : Exit → Act → World → Prop} {ops : Array Oper} {rest : List Oper} {o : Oper} {a : Act} (hgd : Region.wanted o (yielded ops a.tmps) = true) (s x : Operand) (t : TypeId)
    (ho : o.op = .call { callee := .builtin .append, args := #[s, x], argTypes := #[t, t] })
    (i : TypeInfo) (bytes : Nat) (ht : P.underlying t = some (.slice E)) (hi : P.info? E = some i) (hz : i.zero = some (.int k 0)) (hsize : i.size = 1) (hby : i.bytes = bytes) (hb8 : bytes ≤ 8)
    (n : Nat) (hn : l.length = n) (hs : a.eval s = .slice A n c) (hown : OwnN k E base w A c l)
    (ad : Option Addr) (m cc : Nat) (xs : List Int) (hx : a.eval x = .slice ad m cc) (hm : xs.length = m) (hcell : Nums k w ad xs) (hlen : l.length + m < 17592186044415)
    (B : Nat) (W0 : World) (hB : B ≤ base) (hbelow : Below B W0 w)
    (h : ∀ A' c' w', OwnN k E base w' A' c' (l ++ xs) → Below B W0 w' → w.grownBy w' (A.map (·.block)) → wpList P ops Q rest (a.put o.dst (.slice A' (n + m) c')) w') : wpList P ops Q (o :: rest) a w :=
  BigFrame.wpList_want hgd fun _ hK => wp_append_rowA s x t ho i bytes ht hi hz hsize hby hb8 n hn hs hown ad m cc xs hx hm hcell hlen B W0 hB hbelow fun A' c' w' h1 h2 h3 => hK _ _ (h A' c' w' h1 h2 h3)
theorem rparts_apart {w : World} {A : Option Addr} {c base gA : Nat} {bs : List Int} {l : List Pt5} {t : TypeId} (hO : OwnN .u8 5 base w A c bs) (hb : 0 < bs.length) (hl : l ≠ []) (h : w.heap[gA]? = some (.cells (l.flatMap Pt5.rc).toArray t)) : some gA ≠ A.map (·.block) := by
  intro he
  cases A with
  | none => cases he
  | some a =>
    rcases hO.1.2 with ⟨h1, _⟩ | ⟨b, cap, cur, hv, _, hh, _, _, _, ht⟩
    · cases h1
    · injection hv with hA
      injection hA with hA
      subst hA
      injection he with he
      simp at he
      subst he
      have := h.symm.trans hh
      injection this with this
      injection this with h1 h2
      subst h1
      obtain ⟨x, r, rfl⟩ := List.exists_cons_of_ne_nil hl
      obtain ⟨b0, bs', rfl⟩ := List.exists_cons_of_length_pos hb
      have h0 := congrArg (·[0]?) ht
      simp [Pt5.rc] at h0
theorem rwenc_bad (p : Pk) (hp : p.Wf) (hr : p.right = false) (w : World) : Calls Tryd.prog 20 #[.agg (pcs p).toArray] w fun e w' => e = .returned (.tuple #[.slice none 0 0, .int .i64 1]) ∧ Below w.heap.size w w' := by
  have R0 := row_new (W := w) (cs := (pcs p).toArray) (t := pkT) (m := (0, 0))
  have B0 : Below w.heap.size w (w.alloc (.cells (pcs p).toArray pkT)) := (Below.refl _ _).alloc (Nat.le_refl _) _
  have HP := Lib.hid hp
  have Hr := Lib.hid hr
  clear hp hr
  go_enter Tryd.func20, Tryd.ntmps20
  go_wp2_with (first
    | ((refine wpl_pk ?_ (.tmp 1) ?_ w.heap.size p HP.out ?_ R0 ?_); (rfl); (rfl); (rfl)))
  refine (rwright_any p HP.out _).mono ?_
  rintro e w1 ⟨rfl, hB1⟩
  rw [Hr.out]
  go_wp2
  go_ret2
  exact ⟨rfl, B0.trans (hB1.mono B0.size)⟩
set_option maxRecDepth 10000 in
set_option maxHeartbeats 8000000 in
theorem rwenc_ok (p : Pk) (hp : p.Wf) (hrg : p.Rng) (hr : p.right = true) (w : World) : Calls Tryd.prog 20 #[.agg (pcs p).toArray] w fun e w' => ∃ A c, e = .returned (.tuple #[.slice A p.enc.length c, .int .i64 0]) ∧ OwnN .u8 5 w.heap.size w' A c p.enc ∧ Below w.heap.size w w' := by
  have R0 := row_new (W := w) (cs := (pcs p).toArray) (t := pkT) (m := (0, 0))
  have B0 : Below w.heap.size w (w.alloc (.cells (pcs p).toArray pkT)) := (Below.refl _ _).alloc (Nat.le_refl _) _
  obtain ⟨i0, hi, hz0, hz1, hz2⟩ := info_parts info8
  have HI := Lib.hid (And.intro hi (And.intro hz0 (And.intro hz1 hz2)))
  clear hi hz0 hz1 hz2
  obtain ⟨K, hK⟩ : ∃ K, p.h.getD 0 0 = K := ⟨_, rfl⟩
  have hk12 : 1 ≤ K ∧ K ≤ 12 := by rw [← hK]; exact wright_kind hr
  obtain ⟨l, hl⟩ : ∃ l, held K = l := ⟨_, rfl⟩
  obtain ⟨n, hn⟩ : ∃ n, l.length = n := ⟨_, rfl⟩
  have hn7 : n ≤ 7 := by rw [← hn, ← hl]; exact held_len K
  have Hok := Lib.hid (show ∀ x ∈ l, x.Ok by rw [← hl]; exact held_ok K)
  have Henc := Lib.hid (show p.laid l = p.enc by unfold Pk.enc; rw [show p.kind = K from hK, hl])
  have Hnil := Lib.hid (show p.laid [] = [K] by unfold Pk.laid; rw [show p.kind = K from hK]; rw [wlay1 (by omega) (by omega)]; simp)
  have hw8 : IntKind.u8.wrap K = K := by
    have hc : K = 1 ∨ K = 2 ∨ K = 3 ∨ K = 4 ∨ K = 5 ∨ K = 6 ∨ K = 7 ∨ K = 8 ∨ K = 9 ∨ K = 10 ∨ K = 11 ∨ K = 12 := by omega
    rcases hc with h | h | h | h | h | h | h | h | h | h | h | h <;> rw [h] <;> rfl
  have HP := Lib.hid hp
  have Hr := Lib.hid hr
  have HRg := Lib.hid hrg
  have Hl := Lib.hid hl
  have Hn := Lib.hid hn
  have HC0 := Lib.hid (show ∀ W : World, W.heap[w.heap.size]? = some (.cells (pcs p).toArray pkT) → W.cell? ⟨w.heap.size, 0, none⟩ = some (.int .i64 K) from fun W h => by rw [pk_cell h hp 0 (by decide), hK])
  clear hp hr hrg hK hl hn
  go_enter Tryd.func20, Tryd.ntmps20
  go_wp2_with (first
    | ((refine wpl_pk ?_ (.tmp 1) ?_ w.heap.size p HP.out ?_ R0 ?_); (rfl); (rfl); (rfl)))
  refine (rwright_any p HP.out _).mono ?_
  rintro e w1 ⟨rfl, hB1⟩
  rw [Hr.out]
  have R1 := row_kept R0 hB1 (row_lt R0)
  have B1 := B0.trans (hB1.mono B0.size)
  have c1 := HC0.out _ R1
  have hlt := row_lt R1
  clear hB1 B0 R0
  go_upto_region 4 with (fail)
  have HO2 := own_one (W := w1) (base := w1.heap.size) (Nat.le_refl _) K
  have AN := (Below.refl w1.heap.size w1).alloc (Nat.le_refl _) (.cells #[.int .u8 K] 5)
  have R2 := row_kept R1 AN hlt
  have B2 := B1.trans (AN.mono B1.size)
  have c2 := HC0.out _ R2
  generalize w1.alloc (.cells #[.int .u8 K] 5) = w2 at HO2 R2 B2 c2 ⊢
  clear AN B1 R1 c1
  go_wp2_with fail
  refine (rparts_any K w2).mono ?_
  rintro e w3 ⟨A3, rfl, HA, hB3⟩
  rw [Hl.out, Hn.out]
  rw [Hl.out] at HA
  have R3 := row_kept R2 hB3 (row_lt R2)
  have B3 := B2.trans (hB3.mono B2.size)
  have HO3 := Lib.hid (own_up HO2 hB3 (Nat.le_refl _))
  have HR3 := Lib.hid (And.intro R3 (And.intro B3 HA))
  clear hB3 B2 R2 c2 HO2 R3 B3 HA
  go_wp2_with fail
  go_loopw [4, 6] (fun v i wr => ∃ (k : Nat) (A : Option Addr) (c : Nat), k ≤ n ∧ i = .int .i64 k ∧ v = .slice A (p.laid (l.take k)).length c ∧ OwnN .u8 5 w1.heap.size wr A c (p.laid (l.take k)) ∧ wr.heap[w.heap.size]? = some (.cells (pcs p).toArray pkT) ∧ RPtsAt wr A3 l ∧ Below w.heap.size w wr) (fun _ i _ => n - (intOf i).toNat)
  case atStart => exact ⟨0, some ⟨w1.heap.size, 0, none⟩, 1, Nat.zero_le _, rfl, (by rw [List.take_zero, Hnil.out]; rfl), (by rw [List.take_zero, Hnil.out]; exact HO3.out), HR3.out.1, HR3.out.2.2, HR3.out.2.1⟩
  case round =>
    obtain ⟨k, A, c, hk, rfl, rfl, hO, R1, HA, hB⟩ := hrel
    clear HR3 HO3
    have HO := Lib.hid hO
    clear hO
    have hlen1 : 0 < (p.laid (l.take k)).length := by unfold Pk.laid; rw [List.length_append, lay_len]; omega
    have hlen2 : (p.laid (l.take k)).length ≤ 1000000 := by
      have := Pk.laid_len HP.out (l.take k) (fun x hx => Hok.out x (List.mem_of_mem_take hx))
      have h2 : (l.take k).length ≤ 7 := by rw [List.length_take]; omega
      omega
    by_cases hkn : k < n
    · obtain ⟨x, hx⟩ : ∃ x, l[k]? = some x := ⟨_, List.getElem?_eq_getElem (by rw [Hn.out]; exact hkn)⟩
      have hxo := Hok.out x (List.mem_of_getElem? hx)
      have hl0 : l ≠ [] := fun h0 => by rw [h0] at hx; cases hx
      rcases HA with h0 | ⟨gA, tA, rfl, RA⟩
      · exact absurd h0 hl0
      have HXO := Lib.hid hxo
      have Hsnoc := Lib.hid (show p.laid (l.take (k + 1)) = p.laid (l.take k) ++ x.put p by rw [take_snoc5 hx, Pk.laid_snoc])
      have q0 : (0 : Int) ≤ (k : Int) := by omega
      have q1 : (k : Int) < (n : Int) := by omega
      have q2 : (n : Int) ≤ 7 := by omega
      have hne1 : some w.heap.size ≠ A.map (·.block) := by
        intro he
        cases A with
        | none => cases he
        | some a =>
          have he' : w.heap.size = a.block := Option.some.inj he
          have := (HO.out.block' rfl).1
          omega
      have hne2 := rparts_apart HO.out hlen1 hl0 RA
      have HC := Lib.hid (show ∀ W : World, W.heap[gA]? = some (.cells (l.flatMap Pt5.rc).toArray tA) → (W.cell? ⟨gA, k * 4, none⟩ = some (.int .i64 ((x.j : Int) - 1)) ∧ W.cell? ⟨gA, k * 4 + 1, none⟩ = some (.int .i64 (if x.j ≤ 11 then x.sz else if x.j = 12 then 16 else 8))) from fun W h => ⟨by have := rcell h hx 0 (by decide); simpa [Pt5.rc] using this, by have := rcell h hx 1 (by decide); simpa [Pt5.rc] using this⟩)
      obtain ⟨m, hm⟩ : ∃ m, (p.laid (l.take k)).length = m := ⟨_, rfl⟩
      obtain ⟨bs, hbs⟩ : ∃ bs, p.laid (l.take k) = bs := ⟨_, rfl⟩
      rw [hm] at hlen1 hlen2 ⊢
      rw [hbs] at HO Hsnoc hm
      have Hm := Lib.hid hm
      have Hlen := Lib.hid (show bs.length + 16 < 17592186044415 by omega)
      clear hx hxo hm hbs hl0
      have hFin := Lib.hid (show ∀ (W : World) (A' : Option Addr) (c' : Nat) (xs : List Int) (m' : Nat), x.put p = xs → m + xs.length = m' → OwnN .u8 5 w1.heap.size W A' c' (bs ++ xs) → W.heap[w.heap.size]? = some (.cells (pcs p).toArray pkT) → W.heap[gA]? = some (.cells (l.flatMap Pt5.rc).toArray tA) → Below w.heap.size w W →
        (k + 1 ≤ n ∧ Value.slice A' m' c' = .slice A' (p.laid (l.take (k + 1))).length c' ∧ OwnN .u8 5 w1.heap.size W A' c' (p.laid (l.take (k + 1))) ∧ W.heap[w.heap.size]? = some (.cells (pcs p).toArray pkT) ∧ RPtsAt W (some ⟨gA, 0, none⟩) l ∧ Below w.heap.size w W) from fun W A' c' xs m' h1 h2 hO r1 ra hb =>
        ⟨by omega, by rw [Hsnoc.out, h1, List.length_append, Hm.out, h2], by rw [Hsnoc.out, h1]; exact hO, r1, Or.inr ⟨gA, tA, rfl, ra⟩, hb⟩)
      have hj1 := HXO.out.j1
      have hj2 := HXO.out.j2
      have hcase : (x.j = 12) ∨ (x.j = 13) ∨ (x.j ≤ 11) := by omega
      have hw1 : w.heap.size ≤ w1.heap.size := Nat.le_of_lt hlt
      rcases hcase with hj | hj | hj
      · have C0 := (HC.out _ RA).1
        rw [show ((x.j : Int) - 1) = 11 by omega] at C0
        have hput : x.put p = p.s := by unfold Pt5.put; rw [if_neg (by omega), if_pos hj]
        have hNS := nums_secret R1 HP.out
        clear hj hj1 hj2
        go_wp2_with (first
          | (at_builtin; refine wpList_append_rowG2 rfl (.tmp 44) (.tmp 46) 22 rfl i0 1 Tryd.underlying22 HI.out.1 HI.out.2.1 HI.out.2.2.1 HI.out.2.2.2 (by decide) m Hm.out rfl HO.out (some ⟨w.heap.size, 12, none⟩) 16 16 p.s rfl HP.out.s hNS Hlen.out w.heap.size w hw1 hB ?_; intro A4 c4 w4 hO4 hB4 hG4)
          )
        have h := hFin.out w4 A4 c4 p.s (m + 16) hput (by rw [HP.out.s]) hO4 ((hG4.block _ (row_lt R1) hne1).trans R1) ((hG4.block _ (row_lt RA) hne2).trans RA) hB4
        go_roundw
        case rel => exact ⟨k + 1, A4, c4, h.1, by go_num, h.2⟩
        case measure => simp [intOf]; omega
      · have C0 := (HC.out _ RA).1
        rw [show ((x.j : Int) - 1) = 12 by omega] at C0
        have hput : x.put p = p.t := by unfold Pt5.put; rw [if_neg (by omega), if_neg (by omega)]
        have hNS := nums_tag R1 HP.out
        have Hlen8 := Lib.hid (show bs.length + 8 < 17592186044415 by have := Hlen.out; omega)
        clear hj hj1 hj2
        go_wp2_with (first
          | (at_builtin; refine wpList_append_rowG2 rfl (.tmp 50) (.tmp 52) 22 rfl i0 1 Tryd.underlying22 HI.out.1 HI.out.2.1 HI.out.2.2.1 HI.out.2.2.2 (by decide) m Hm.out rfl HO.out (some ⟨w.heap.size, 28, none⟩) 8 8 p.t rfl HP.out.t hNS Hlen8.out w.heap.size w hw1 hB ?_; intro A4 c4 w4 hO4 hB4 hG4)
          )
        have h := hFin.out w4 A4 c4 p.t (m + 8) hput (by rw [HP.out.t]) hO4 ((hG4.block _ (row_lt R1) hne1).trans R1) ((hG4.block _ (row_lt RA) hne2).trans RA) hB4
        go_roundw
        case rel => exact ⟨k + 1, A4, c4, h.1, by go_num, h.2⟩
        case measure => simp [intOf]; omega
      · obtain ⟨v, hv⟩ : ∃ v, ((x.j : Int) - 1) = v := ⟨_, rfl⟩
        have HV := Lib.hid hv
        have HJ := Lib.hid (And.intro hj1 hj)
        obtain ⟨y, hy⟩ : ∃ y, p.h.getD x.j 0 = y := ⟨_, rfl⟩
        have Hy := Lib.hid hy
        have Wy := Lib.hid (show -9223372036854775808 ≤ y ∧ y ≤ 9223372036854775807 by rw [← hy]; exact HRg.out x.j)
        obtain ⟨sz, hsz⟩ : ∃ sz : Nat, x.sz = (sz : Int) := by rcases HXO.out.sz hj with h | h <;> exact ⟨_, h⟩
        have hsz7 : 1 ≤ sz ∧ sz ≤ 7 := by rcases HXO.out.sz hj with h | h <;> omega
        have v11 : (v == 11) = false := beq_eq_false_iff_ne.2 (by omega)
        have v12 : (v == 12) = false := beq_eq_false_iff_ne.2 (by omega)
        rw [hv, if_pos hj, hsz] at HC
        have hput : x.put p = lay y sz := by unfold Pt5.put; rw [if_pos hj, hy, hsz]; rfl
        have C0 := (HC.out _ RA).1
        have Hsz := Lib.hid hsz7
        clear hv hj1 hj2 hj hy hsz hsz7
        go_upto_region 9 with (fail)
        have HU := Lib.hid (show ∀ u : Over wr.heap.size wr, u.val.heap[w.heap.size]? = some (.cells (pcs p).toArray pkT) from fun u => row_kept R1 u.below (row_lt R1))
        have HUC := fun u : Over wr.heap.size wr => (HC.out _ (row_kept RA u.below (row_lt RA))).1
        have HUD := fun u : Over wr.heap.size wr => (HC.out _ (row_kept RA u.below (row_lt RA))).2
        have HG := Lib.hid (show ∀ u : Over wr.heap.size wr, Calls Tryd.prog 35 #[.agg (pcs p).toArray, .int .i64 v] u.val fun e w' => e = .returned (.int .i64 y) ∧ Below u.val.heap.size u.val w' from fun u => rget_any p HP.out x.j HJ.out.1 HJ.out.2 u.val v HV.out y Hy.out)
        refine region_tail_class (fun u : Over wr.heap.size wr => u.val) ⟨wr.drew, below_drewN (Below.refl _ _) 1⟩ rfl 13 (by kernel_rfl) (by kernel_rfl) ?_
        simp only [List.take_succ_cons, List.take_zero, List.drop_succ_cons, List.drop_zero]
        repeat (first
          | ((with_reducible refine wpQuiet_pk' ?_ (.tmp 1) ?_ w.heap.size p HP.out ?_ (fun u => HU.out u) ?_); (rfl); (rfl); (rfl); (conv => arg 6; simp only [Act.put, List.setIfInBounds_toArray, List.set_cons_succ, List.set_cons_zero]))
          | go_big_quiet_step ((first
            | (go_at_call 35; with_reducible exact over_left (Nat.le_refl _) (HG.out _)))))
        with_reducible refine wpQuiet_nil ?_
        rintro _ ⟨u, rfl⟩
        have u2 := u.below
        generalize u.val = w2' at u2 ⊢
        have R1 := row_kept R1 u2 (row_lt R1)
        have RA := row_kept RA u2 (row_lt RA)
        have B2 := hB.trans (u2.mono hB.size)
        have HO2 := Lib.hid (own_up HO.out u2 (Nat.le_refl _))
        have hwr := HO.out.2
        clear HU HUC HUD HG C0 u2 hB
        go_wp2_with fail
        refine (ref04.put_any w2' A m c bs Hm.out HO2.out.nums (by omega) y sz Wy.out sz (by have := Hsz.out; omega)).mono ?_
        rintro e w4 ⟨A4, c4, rfl, hO4, hB4⟩
        have h := Lib.hid (hFin.out w4 A4 c4 (lay y sz) (m + sz) hput (by rw [lay_len]) (OwnN.lower hO4 HO2.out.2) (row_kept R1 hB4 (row_lt R1)) (row_kept RA hB4 (row_lt RA)) (B2.trans (hB4.mono B2.size)))
        clear hO4 hB4 HO2 B2
        go_wp2_with fail
        go_roundw
        case rel => exact ⟨k + 1, A4, c4, h.out.1, by go_num, h.out.2⟩
        case measure => simp [intOf]; omega
    · obtain rfl : k = n := by omega
      rw [List.take_of_length_le (by rw [Hn.out]; exact Nat.le_refl _)] at HO ⊢
      rw [Henc.out] at HO ⊢
      clear hlen1 hlen2
      go_wp2
      go_ret2
      exact ⟨A, c, rfl, OwnN.lower HO.out (by omega), hB⟩
end Go.Proofs.YtpglhkjgcahdbaaDoor
/- Packets that are signed: the document's own. -/
namespace Go.Proofs.YtpglhkjgcahdbaaDoor
open Go.ChangeShapes Go.WideShapes Go.ChangeAt Go.RowKit
theorem rtagged_any (k : Int) (w : World) : Calls Tryd.prog 19 #[.int .i64 k] w fun e w' => e = .returned (.bool (isTag k)) ∧ w = w' := by
  unfold isTag
  by_cases h1 : 5 ≤ k
  · by_cases h2 : k ≤ 11
    · have d1 : decide (5 ≤ k) = true := decide_eq_true h1
      have d2 : decide (k ≤ 11) = true := decide_eq_true h2
      go_enter Tryd.func19, Tryd.ntmps19
      go_wp2
      go_ret
      exact ⟨ret_bool (by first | rfl | simp [d1, d2]), rfl⟩
    · have d1 : decide (5 ≤ k) = true := decide_eq_true h1
      have d2 : decide (k ≤ 11) = false := decide_eq_false h2
      go_enter Tryd.func19, Tryd.ntmps19
      go_wp2
      go_ret
      exact ⟨ret_bool (by first | rfl | simp [d1, d2]), rfl⟩
  · have d1 : decide (5 ≤ k) = false := decide_eq_false h1
    go_enter Tryd.func19, Tryd.ntmps19
    go_wp2
    go_ret
    exact ⟨ret_bool (by first | rfl | simp [d1]), rfl⟩
theorem gdB_eq2 (key : List Int) (p : Pk) : gdB key p = (sgOk p && decide (sgPk key p = p)) := by
  unfold gdB sgPk
  generalize sgTag key p = t
  cases sgOk p
  · rw [Bool.false_and, Bool.false_and]
  · rw [if_pos rfl, Bool.true_and, Bool.true_and]
    refine decide_eq_decide.2 ⟨fun h => ?_, fun h => ?_⟩
    · subst h; rfl
    · exact congrArg Pk.t h
set_option maxRecDepth 100000 in
set_option maxHeartbeats 2000000 in
theorem rsign_any (w : World) (key : List Int) (hk : key.length = 16) (hkw : ∀ z ∈ key, 0 ≤ z ∧ z < 256) (p : Pk) (hp : p.Wf) (hrg : p.Rng) (hps : ∀ z ∈ p.s, 0 ≤ z ∧ z < 256) (q : Pk) (hq : sgPk key p = q) (ok : Bool) (hok : sgOk p = ok) :
    Calls Tryd.prog 10 #[.agg (nrow .u8 key).toArray, .agg (pcs p).toArray] w fun e w' => e = .returned (.tuple #[.agg (pcs q).toArray, .bool ok]) ∧ Below w.heap.size w w' := by
  have z0 := zero_b32'
  have zpk := zero_pk
  have z8' := zero_b8
  obtain ⟨L, hL⟩ : ∃ L, (nrow .u8 key).toArray = L := ⟨_, rfl⟩
  have A0 : Below w.heap.size w (w.alloc (.cells (nrow .u8 key).toArray b16T)) := (Below.refl _ _).alloc (Nat.le_refl _) _
  have A1 := A0.alloc A0.size (.cells (pcs p).toArray pkT)
  have A2 := A1.alloc A1.size (.cells (pcs pk0).toArray pkT)
  have RK := row_new (W := w) (cs := (nrow .u8 key).toArray) (t := b16T) (m := (0, 0))
  have RP : ((w.alloc (.cells (nrow .u8 key).toArray b16T)).alloc (.cells (pcs p).toArray pkT)).heap[w.heap.size + 1]? = some (.cells (pcs p).toArray pkT) := by
    have := row_new (W := w.alloc (.cells (nrow .u8 key).toArray b16T)) (cs := (pcs p).toArray) (t := pkT) (m := (0, 0))
    simpa using this
  have RR : (((w.alloc (.cells (nrow .u8 key).toArray b16T)).alloc (.cells (pcs p).toArray pkT)).alloc (.cells (pcs pk0).toArray pkT)).heap[w.heap.size + 1 + 1]? = some (.cells (pcs pk0).toArray pkT) := by
    have := row_new (W := (w.alloc (.cells (nrow .u8 key).toArray b16T)).alloc (.cells (pcs p).toArray pkT)) (cs := (pcs pk0).toArray) (t := pkT) (m := (0, 0))
    simpa using this
  have RK := row_kept RK ((Below.refl _ _).alloc (Nat.le_refl _) (.cells (pcs p).toArray pkT)) (row_lt RK)
  have RK := row_kept RK ((Below.refl _ _).alloc (Nat.le_refl _) (.cells (pcs pk0).toArray pkT)) (row_lt RK)
  have RP := row_kept RP ((Below.refl _ _).alloc (Nat.le_refl _) (.cells (pcs pk0).toArray pkT)) (row_lt RP)
  have L0 : (pcs pk0).length = 36 := pcs_len pk0_wf
  have HP := Lib.hid hp
  have HK := Lib.hid hk
  have HKW := Lib.hid hkw
  have HRg := Lib.hid hrg
  have HPS := Lib.hid hps
  have Hq := Lib.hid hq
  have Hok := Lib.hid hok
  clear A0 A1 hp hk hkw hrg hps hq hok hL
  go_enter Tryd.func10, Tryd.ntmps10
  go_upto_region 1 with (fail)
  generalize ((w.alloc (.cells (nrow .u8 key).toArray b16T)).alloc (.cells (pcs p).toArray pkT)).alloc (.cells (pcs pk0).toArray pkT) = W0 at RK RP RR A2 ⊢
  obtain ⟨K, hK⟩ : ∃ K, p.kind = K := ⟨_, rfl⟩
  have c0 := pk_cell RP HP.out 0 (by decide)
  rw [show p.h.getD 0 0 = p.kind from rfl, hK] at c0
  have HKi := Lib.hid hK
  clear hK
  have hsz : w.heap.size + 1 + 1 < W0.heap.size := row_lt RR
  go_wp2_with fail
  refine (rtagged_any K _).mono ?_
  rintro e w' ⟨rfl, rfl⟩
  cases hT : isTag K
  · have hok0 : sgOk p = false := pk0_enc (by rw [HKi.out]; exact hT)
    have hq0 : q = pk0 := by rw [← Hq.out, sgPk, hok0]; rfl
    have hk0 : ok = false := by rw [← Hok.out]; exact hok0
    subst hq0; subst hk0
    clear hT hok0 c0
    go_wp2_with (first
      | (refine wpl_arr_store info_pk rfl (.tmp 4) (.tmp 14) rfl (w.heap.size + 1 + 1) (pcs pk0) (pcs pk0) L0 L0 (pcs_one _) rfl rfl RR ?_))
    exact bodyPost_ret (pk_results Tryd.results10 pk0_wf rfl rfl (row_written RR)) rfl ⟨rfl, setRow_below A2 (by omega)⟩
  · have hT5 := Lib.hid (isTag_iff hT)
    have Q8 := Lib.hid (setT_wf HP.out (t := z8) rfl)
    have stT := store_tag RP HP.out (t := z8) rfl
    have hTk := Lib.hid (show isTag p.kind = true by rw [HKi.out]; exact hT)
    clear hT c0
    go_upto_region 4 with (fail)
    have RK := (setRow_far (w := W0) (g := w.heap.size + 1) (t := pkT) (cs := (pcs (setT p z8)).toArray) (show w.heap.size ≠ w.heap.size + 1 by omega)).trans RK
    have RR := (setRow_far (w := W0) (g := w.heap.size + 1) (t := pkT) (cs := (pcs (setT p z8)).toArray) (show w.heap.size + 1 + 1 ≠ w.heap.size + 1 by omega)).trans RR
    have RP := row_written (t := pkT) (ds := (pcs (setT p z8)).toArray) RP
    have A3 := setRow_below (g := w.heap.size + 1) (t := pkT) (cs := (pcs (setT p z8)).toArray) A2 (by omega)
    generalize setRow W0 (w.heap.size + 1) pkT (pcs (setT p z8)).toArray = W1 at RK RR RP A3 ⊢
    clear stT A2 hsz
    obtain ⟨p1, hp1⟩ : ∃ p1, setT p z8 = p1 := ⟨_, rfl⟩
    rw [hp1] at RP Q8
    have Hp1 := Lib.hid hp1
    clear hp1
    go_wp2_with (first
      | ((refine wpl_pk ?_ (.tmp 3) ?_ (w.heap.size + 1) p1 Q8.out ?_ RP ?_); (rfl); (rfl); (rfl)))
    cases hR : p1.right
    · refine (rwenc_bad p1 Q8.out hR _).mono ?_
      rintro e w2 ⟨rfl, hB⟩
      have RR := row_kept RR hB (row_lt RR)
      have A4 := A3.trans (hB.mono A3.size)
      have hok0 : sgOk p = false := by unfold sgOk; rw [Hp1.out, hR]; simp
      have hq0 : q = pk0 := by rw [← Hq.out, sgPk, hok0]; rfl
      have hk0 : ok = false := by rw [← Hok.out]; exact hok0
      subst hq0; subst hk0
      clear hR hok0 hB A3 RK RP
      go_wp2_with (first
        | (refine wpl_arr_store info_pk rfl (.tmp 4) (.tmp 24) rfl (w.heap.size + 1 + 1) (pcs pk0) (pcs pk0) L0 L0 (pcs_one _) rfl rfl RR ?_))
      exact bodyPost_ret (pk_results Tryd.results10 pk0_wf rfl rfl (row_written RR)) rfl ⟨rfl, setRow_below A4 (by omega)⟩
    · have hok1 : sgOk p = true := by unfold sgOk; rw [Hp1.out, hR, hTk.out]; rfl
      have hk1 : ok = true := by rw [← Hok.out]; exact hok1
      subst hk1
      obtain ⟨m, hm⟩ : ∃ m, p1.enc = m := ⟨_, rfl⟩
      obtain ⟨n, hn⟩ : ∃ n, m.length = n := ⟨_, rfl⟩
      obtain ⟨r, hr⟩ : ∃ r, Mac.hmac key m = r := ⟨_, rfl⟩
      have hr32 : r.length = 32 := by rw [← hr]; exact Mac.hmac_len _ _
      have SN := sha_new r hr32
      have LR : (nrow .u8 r).length = 32 := by rw [nrow_len]; exact hr32
      have ht8 : r.take 8 = sgTag key p := by rw [← hr, ← hm, ← Hp1.out]; rfl
      have hq1 : q = setT p1 (r.take 8) := by rw [← Hq.out, sgPk, hok1, if_pos rfl, ht8, ← Hp1.out]; rfl
      have hm33 : n ≤ 200 := by
        have := Pk.laid_len Q8.out (held p1.kind) (held_ok _)
        have h2 := held_len p1.kind
        have h3 : m.length ≤ 1 + 16 * (held p1.kind).length := by rw [← hm]; exact this
        omega
      have Hmw := Lib.hid (show ∀ z ∈ m, 0 ≤ z ∧ z < 256 from fun z hz => by
        rw [← hm] at hz
        have := enc_byte (p := p1) (by rw [← Hp1.out]; exact HPS.out) (by rw [← Hp1.out]; show ∀ z ∈ z8, _; decide) z hz
        omega)
      have HE := Lib.hid (rwenc_ok p1 Q8.out (by rw [← Hp1.out]; exact HRg.out) hR W1)
      rw [hm, hn] at HE
      have Hn := Lib.hid hn
      have Hr := Lib.hid hr
      have H8 := Lib.hid (show (r.take 8).length = 8 by rw [List.length_take, hr32]; rfl)
      clear hok1 hR hm hn hr hr32 ht8
      refine HE.out.mono ?_
      rintro e w2 ⟨A, c, rfl, hO, hB⟩
      have hl := hO.len
      rw [Hn.out] at hl
      have HN := hO.nums
      have RR := row_kept RR hB (row_lt RR)
      have RK := row_kept RK hB (row_lt RK)
      have RP := row_kept RP hB (row_lt RP)
      have A4 := A3.trans (hB.mono A3.size)
      clear hO hB A3 HE
      have NKk := nums_row8 RK
      go_wp2_with fail
      refine (mof_any _ _ 16 16 key HK.out NKk (by decide) HKW.out A n c m r Hn.out HN (by omega) Hmw.out Hr.out).mono ?_
      rintro x w3 ⟨rfl, hB⟩
      have RR := row_kept RR hB (row_lt RR)
      have RP := row_kept RP hB (row_lt RP)
      have A6 := A4.trans (hB.mono A4.size)
      clear hB A4 RK NKk
      go_upto_region 8 with (fail)
      have AN := (Below.refl w3.heap.size w3).alloc (Nat.le_refl _) (.cells (nrow .u8 r).toArray b32T)
      have RG := row_new (W := w3) (cs := (nrow .u8 r).toArray) (t := b32T) (m := (0, 0))
      have hgp := row_lt RP
      have RR := row_kept RR AN (row_lt RR)
      have RP := row_kept RP AN (row_lt RP)
      have A7 := A6.trans (AN.mono A6.size)
      generalize w3.alloc (.cells (nrow .u8 r).toArray b32T) = V at RG RR RP A7 ⊢
      obtain ⟨gr, hgr⟩ : ∃ g, g = w3.heap.size := ⟨_, rfl⟩
      rw [← hgr] at RG hgp ⊢
      obtain ⟨t, ht⟩ : ∃ t, r.take 8 = t := ⟨_, rfl⟩
      rw [ht] at H8 hq1
      have Hcg := Lib.hid (show ∀ k : Nat, k < 8 → r.getD k 0 = t.getD k 0 from fun k hk => by
        rw [← ht]
        simp only [List.getD, List.getElem?_take, hk, if_true])
      have Hpq := Lib.hid hq1
      have hr32' : r.length = 32 := by rw [← nrow_len .u8 r]; exact LR
      have Hr32 := Lib.hid hr32'
      have hp1t : p1.t = z8 := by rw [← Hp1.out]; rfl
      have HF0 := Lib.hid (show setT p1 (Sha.filled t 0 8) = p1 by
        rw [show Sha.filled t 0 8 = z8 from rfl, ← hp1t]; rfl)
      have HWF := Lib.hid (show ∀ k : Nat, k ≤ 8 → (setT p1 (Sha.filled t k 8)).Wf from fun k hk => setT_wf Q8.out (Sha.len_filled _ _ _ (by rw [H8.out]; omega) (by omega)))
      have HFn := Lib.hid (show setT p1 (Sha.filled t 8 8) = q by rw [Sha.filled_all _ _ H8.out, Hpq.out])
      have HR0 := Lib.hid (And.intro RG (And.intro RP (And.intro RR A7)))
      clear AN SN A6 ht hq1 hgr hr32' hp1t RG RP RR A7 LR
      go_wp2_with fail
      go_loopw [9] (fun i wr => ∃ k : Nat, k ≤ 8 ∧ i = .int .i64 k ∧ wr.heap[gr]? = some (.cells (nrow .u8 r).toArray b32T) ∧ wr.heap[w.heap.size + 1]? = some (.cells (pcs (setT p1 (Sha.filled t k 8))).toArray pkT) ∧ wr.heap[w.heap.size + 1 + 1]? = some (.cells (pcs pk0).toArray pkT) ∧ Below w.heap.size w wr) (fun i _ => 8 - (intOf i).toNat)
      case atStart => exact ⟨0, by omega, rfl, HR0.out.1, by rw [HF0.out]; exact HR0.out.2.1, HR0.out.2.2.1, HR0.out.2.2.2⟩
      case round =>
        obtain ⟨k, hk, rfl, R0, R1, R2, hB⟩ := hrel
        clear HR0
        by_cases hlt : k < 8
        · have q1 : (k : Int) < 8 := by omega
          have q2 : (k : Int) < 32 := by omega
          have q0 : (0 : Int) ≤ (k : Int) := by omega
          have hwf := HWF.out k hk
          have Hset := Lib.hid (Sha.filled_set t k 8 (by rw [H8.out]; exact hlt) hlt)
          have M0 := pcs_tail hwf k hlt
          have Hts := Lib.hid (pcs_tset hwf k (t.getD k 0))
          have C0 := (row_cells R0 k).trans (ncs_at .u8 r k (by rw [Hr32.out]; omega))
          rw [Hcg.out k hlt] at C0
          have M1 : (pcs (setT p1 (Sha.filled t k 8))).toArray[28 + k]? = some (.int .u8 ((setT p1 (Sha.filled t k 8)).t.getD k 0)) := by rw [List.getElem?_toArray]; exact M0
          have Hsa := Lib.hid (show (pcs (setT p1 (Sha.filled t k 8))).toArray.setIfInBounds (28 + k) (.int .u8 (t.getD k 0)) = (pcs (setT p1 (Sha.filled t (k + 1) 8))).toArray by
            rw [List.setIfInBounds_toArray, Hts.out]
            rw [show setT (setT p1 (Sha.filled t k 8)) ((setT p1 (Sha.filled t k 8)).t.set k (t.getD k 0)) = setT p1 ((Sha.filled t k 8).set k (t.getD k 0)) from rfl, Hset.out])
          generalize (setT p1 (Sha.filled t k 8)).t.getD k 0 = y at M1
          generalize hL : (pcs (setT p1 (Sha.filled t k 8))).toArray = L at R1 M1 Hsa
          generalize hx : t.getD k 0 = x at C0 Hsa
          obtain ⟨s0, s1, d0, d1, f0, f1, zz⟩ := rows1 R1
          clear hL hx M0 Hts hwf Hset
          go_wp2
          go_roundw
          case rel =>
            refine ⟨k + 1, by omega, by go_num, (setRow_far (by omega)).trans R0, ?_, (setRow_far (by omega)).trans R2, setRow_below hB (by omega)⟩
            rw [← Hsa.out]
            exact row_written R1
          case measure => simp [intOf]; omega
        · obtain rfl : k = 8 := by omega
          rw [HFn.out] at R1
          have HQ := Lib.hid (show q.Wf by rw [← HFn.out]; exact HWF.out 8 (Nat.le_refl _))
          have LQ := pcs_len HQ.out
          clear R0
          go_wp2_with (first
            | ((refine wpl_pk ?_ (.tmp 3) ?_ (w.heap.size + 1) q HQ.out ?_ R1 ?_); (rfl); (rfl); (rfl))
            | (refine wpl_arr_store info_pk rfl (.tmp 4) (.tmp 38) rfl (w.heap.size + 1 + 1) (pcs q) (pcs pk0) LQ L0 (pcs_one _) rfl rfl R2 ?_))
          exact bodyPost_ret (pk_results Tryd.results10 HQ.out rfl rfl (row_written R2)) rfl ⟨rfl, setRow_below hB (by omega)⟩
set_option maxRecDepth 100000 in
set_option maxHeartbeats 2000000 in
theorem rgood_any (w : World) (key : List Int) (hk : key.length = 16) (hkw : ∀ z ∈ key, 0 ≤ z ∧ z < 256) (p : Pk) (hp : p.Wf) (hrg : p.Rng) (hps : ∀ z ∈ p.s, 0 ≤ z ∧ z < 256) (b : Bool) (hb : gdB key p = b) :
    Calls Tryd.prog 14 #[.agg (nrow .u8 key).toArray, .agg (pcs p).toArray] w fun e w' => e = .returned (.bool b) ∧ Below w.heap.size w w' := by
  have zpk := zero_pk
  have A0 : Below w.heap.size w (w.alloc (.cells (nrow .u8 key).toArray b16T)) := (Below.refl _ _).alloc (Nat.le_refl _) _
  have A1 := A0.alloc A0.size (.cells (pcs p).toArray pkT)
  have RK := row_new (W := w) (cs := (nrow .u8 key).toArray) (t := b16T) (m := (0, 0))
  have RP : ((w.alloc (.cells (nrow .u8 key).toArray b16T)).alloc (.cells (pcs p).toArray pkT)).heap[w.heap.size + 1]? = some (.cells (pcs p).toArray pkT) := by
    have := row_new (W := w.alloc (.cells (nrow .u8 key).toArray b16T)) (cs := (pcs p).toArray) (t := pkT) (m := (0, 0))
    simpa using this
  have RK := row_kept RK ((Below.refl _ _).alloc (Nat.le_refl _) (.cells (pcs p).toArray pkT)) (row_lt RK)
  have LK : (nrow .u8 key).length = 16 := by rw [nrow_len]; exact hk
  obtain ⟨q, hq⟩ : ∃ q, sgPk key p = q := ⟨_, rfl⟩
  obtain ⟨ok, hok⟩ : ∃ ok, sgOk p = ok := ⟨_, rfl⟩
  have hqw : q.Wf := by rw [← hq]; exact sgPk_wf key hp
  have pkn := fun W => pk_new hqw W
  have HE := Lib.hid (fun W => rsign_any W key hk hkw p hp hrg hps q hq ok hok)
  have EQ := fun W => eql_pk W hqw hp
  have Hb := Lib.hid (show (ok && decide (q = p)) = b by
    rw [← hb, ← hok, ← hq]
    exact (gdB_eq2 key p).symm)
  have HQ := Lib.hid hqw
  have LQ := pcs_len hqw
  have HP := Lib.hid hp
  clear A0 hp hk hkw hrg hps hq hok hqw hb
  go_enter Tryd.func14, Tryd.ntmps14
  go_upto_region 1 with (fail)
  generalize (w.alloc (.cells (nrow .u8 key).toArray b16T)).alloc (.cells (pcs p).toArray pkT) = W0 at RK RP A1 ⊢
  go_wp2_with (first
    | ((with_reducible refine wpl_arr Tryd.underlying23 info_b16 ?_ (.tmp 2) ?_ w.heap.size (nrow .u8 key) LK ?_ RK ?_); (rfl); (rfl); (rfl))
    | ((refine wpl_pk ?_ (.tmp 3) ?_ (w.heap.size + 1) p HP.out ?_ RP ?_); (rfl); (rfl); (rfl)))
  refine (HE.out _).mono ?_
  rintro e w2 ⟨rfl, hB⟩
  have RP := row_kept RP hB (row_lt RP)
  have A2 := A1.trans (hB.mono A1.size)
  clear hB A1 RK HE
  go_upto_region 2 with (fail)
  have AN := (Below.refl w2.heap.size w2).alloc (Nat.le_refl _) (.cells (pcs q).toArray pkT)
  have RQ := row_new (W := w2) (cs := (pcs q).toArray) (t := pkT) (m := (0, 0))
  have RP := row_kept RP AN (row_lt RP)
  have A3 := A2.trans (AN.mono A2.size)
  generalize w2.alloc (.cells (pcs q).toArray pkT) = V at RQ RP A3 ⊢
  clear AN A2 pkn
  cases ok
  · have hb0 : b = false := by rw [← Hb.out]; rfl
    subst hb0
    go_wp2
    go_ret
    exact ⟨rfl, A3⟩
  · have hb0 : decide (q = p) = b := by rw [← Hb.out]; rfl
    rw [hb0] at EQ
    go_wp2_with (first
      | ((refine wpl_pk ?_ (.tmp 5) ?_ w2.heap.size q HQ.out ?_ RQ ?_); (rfl); (rfl); (rfl))
      | ((refine wpl_pk ?_ (.tmp 3) ?_ (w.heap.size + 1) p HP.out ?_ RP ?_); (rfl); (rfl); (rfl)))
    go_ret
    exact ⟨rfl, A3⟩
end Go.Proofs.YtpglhkjgcahdbaaDoor
