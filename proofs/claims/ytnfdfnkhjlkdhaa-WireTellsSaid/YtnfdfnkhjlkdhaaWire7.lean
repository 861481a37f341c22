/- The bytes of a packet. -/
import Derived.Test.YtnfdfnkhjlkdhaaWire6
namespace Go.Proofs.Ytnfdfnkhjlkdhaa
open Go.ChangeShapes Go.WideShapes Go.ChangeAt Go.RowKit
theorem own_up {w w' : World} {base B : Nat} {A : Option Addr} {c : Nat} {l : List Int} {k : IntKind} {E : TypeId} (h : OwnN k E base w A c l) (hb : Below B w w') (hB : w.heap.size ≤ B) : OwnN k E base w' A c l := by
  refine ⟨⟨h.1.1, ?_⟩, Nat.le_trans h.2 hb.size⟩
  rcases h.1.2 with h1 | ⟨b, cap, cur, hv, hbb, hh, r⟩
  · exact Or.inl h1
  · exact Or.inr ⟨b, cap, cur, hv, hbb, (hb.block b (Nat.lt_of_lt_of_le (row_lt hh) hB)).trans hh, r⟩
def Pk.Rng (p : Pk) : Prop := ∀ i, -9223372036854775808 ≤ p.h.getD i 0 ∧ p.h.getD i 0 ≤ 9223372036854775807
theorem wpList_append_rowG {k : IntKind} {E : TypeId} {base : Nat} {w : World} {A : Option Addr} {c : Nat} {l : List Int} {P : Program} {Q : Exit → Act → World → Prop} {ops : Array Oper} {rest : List Oper} {o : Oper} {a : Act} (hgd : Region.wanted o (yielded ops a.tmps) = true) (s x : Operand) (t : TypeId)
    (ho : o.op = .call { callee := .builtin .append, args := #[s, x], argTypes := #[t, t] })
    (i : TypeInfo) (bytes : Nat) (ht : P.underlying t = some (.slice E)) (hi : P.info? E = some i) (hz : i.zero = some (.int k 0)) (hsize : i.size = 1) (hby : i.bytes = bytes) (hb8 : bytes ≤ 8)
    (n : Nat) (hn : l.length = n) (hs : a.eval s = .slice A n c) (hown : OwnN k E base w A c l)
    (ad : Addr) (m cc : Nat) (xs : List Int) (hx : a.eval x = .slice (some ad) m cc) (hm : xs.length = m) (hcell : Nums k w (some ad) xs) (hlen : l.length + m < 17592186044415)
    (B : Nat) (W0 : World) (hB : B ≤ base) (hbelow : Below B W0 w)
    (h : ∀ A' c' w', OwnN k E base w' A' c' (l ++ xs) → Below B W0 w' → w.grownBy w' (A.map (·.block)) → wpList P ops Q rest (a.put o.dst (.slice A' (n + m) c')) w') : wpList P ops Q (o :: rest) a w :=
  BigFrame.wpList_want hgd fun _ hK => wp_append_rowG s x t ho i bytes ht hi hz hsize hby hb8 n hn hs hown ad m cc xs hx hm hcell hlen B W0 hB hbelow fun A' c' w' h1 h2 h3 => hK _ _ (h A' c' w' h1 h2 h3)
theorem grown_alloc {w w' : World} {o : Obj} {r : Option Nat} (h : (w.alloc o).grownBy w' r) : w.grownBy w' r :=
  ⟨h.os, h.tape, h.output, Nat.le_trans (by simp) h.size, fun k hk hr => (h.block k (by simp; omega) hr).trans (Below.heap_alloc _ _ _ hk)⟩
theorem grown_below {w w' : World} {r : Option Nat} (h : Below w.heap.size w w') : w.grownBy w' r := ⟨h.os, h.tape, h.output, h.size, fun k hk _ => h.block k hk⟩
set_option maxHeartbeats 1000000 in
theorem putG_secret (sz lo hi : Int) (w : World) (g : Nat) (rs : List Int) (hrs : rs.length = 16) (C : ∀ o : Obj, Nums .u8 (w.alloc o) (some ⟨g, 12, none⟩) rs) (A : Option Addr) (n c : Nat) (bs : List Int) (base : Nat) (hn : bs.length = n) (hO : OwnN .u8 5 base w A c bs) (hlen : n ≤ 1000000) :
    Calls Try.prog 21 #[.agg #[.nilFunc, .func (.func 58) #[] #[], .int .i64 sz, .int .i64 lo, .int .i64 hi], .slice A n c, .pointer (some ⟨g, 0, none⟩)] w fun e w' => ∃ A' c', e = .returned (.slice A' (n + 16) c') ∧ OwnN .u8 5 base w' A' c' (bs ++ rs) ∧ w.grownBy w' (A.map (·.block)) := by
  obtain ⟨i0, hi, hz0, hz1, hz2⟩ := info_parts info8
  have HI := Lib.hid (And.intro hi (And.intro hz0 (And.intro hz1 hz2)))
  clear hi hz0 hz1 hz2
  have Z := fun_row
  have Hr := Lib.hid hrs
  have Hn := Lib.hid hn
  have HO := Lib.hid hO
  have HC := Lib.hid C
  clear hrs hn hO C
  go_enter Try.func21, Try.ntmps21
  go_wp2_with (first
    | (go_at_call 58; refine (at_secret _ g).mono ?_; rintro e w' ⟨rfl, rfl⟩)
    | (at_builtin; refine wpList_append_rowG rfl (.tmp 10) (.tmp 14) 26 rfl i0 1 Try.underlying26 HI.out.1 HI.out.2.1 HI.out.2.2.1 HI.out.2.2.2 (by decide) n Hn.out rfl (HO.out.alloc _) _ 16 _ rs rfl Hr.out (HC.out _) (by rw [Hn.out]; omega) base w (Nat.le_refl _) ((Below.refl base w).alloc HO.out.2 _) ?_; intro A4 c4 w4 hO4 hb hG; have HO4 := Lib.hid hO4; have HG := Lib.hid (grown_alloc hG); clear hO4 hb hG))
  go_ret
  exact ⟨A4, c4, rfl, HO4.out, HG.out⟩
set_option maxHeartbeats 1000000 in
theorem putG_tag (sz lo hi : Int) (w : World) (g : Nat) (rs : List Int) (hrs : rs.length = 8) (C : ∀ o : Obj, Nums .u8 (w.alloc o) (some ⟨g, 28, none⟩) rs) (A : Option Addr) (n c : Nat) (bs : List Int) (base : Nat) (hn : bs.length = n) (hO : OwnN .u8 5 base w A c bs) (hlen : n ≤ 1000000) :
    Calls Try.prog 21 #[.agg #[.nilFunc, .func (.func 62) #[] #[], .int .i64 sz, .int .i64 lo, .int .i64 hi], .slice A n c, .pointer (some ⟨g, 0, none⟩)] w fun e w' => ∃ A' c', e = .returned (.slice A' (n + 8) c') ∧ OwnN .u8 5 base w' A' c' (bs ++ rs) ∧ w.grownBy w' (A.map (·.block)) := by
  obtain ⟨i0, hi, hz0, hz1, hz2⟩ := info_parts info8
  have HI := Lib.hid (And.intro hi (And.intro hz0 (And.intro hz1 hz2)))
  clear hi hz0 hz1 hz2
  have Z := fun_row
  have Hr := Lib.hid hrs
  have Hn := Lib.hid hn
  have HO := Lib.hid hO
  have HC := Lib.hid C
  clear hrs hn hO C
  go_enter Try.func21, Try.ntmps21
  go_wp2_with (first
    | (go_at_call 62; refine (at_tag _ g).mono ?_; rintro e w' ⟨rfl, rfl⟩)
    | (at_builtin; refine wpList_append_rowG rfl (.tmp 10) (.tmp 14) 26 rfl i0 1 Try.underlying26 HI.out.1 HI.out.2.1 HI.out.2.2.1 HI.out.2.2.2 (by decide) n Hn.out rfl (HO.out.alloc _) _ 8 _ rs rfl Hr.out (HC.out _) (by rw [Hn.out]; omega) base w (Nat.le_refl _) ((Below.refl base w).alloc HO.out.2 _) ?_; intro A4 c4 w4 hO4 hb hG; have HO4 := Lib.hid hO4; have HG := Lib.hid (grown_alloc hG); clear hO4 hb hG))
  go_ret
  exact ⟨A4, c4, rfl, HO4.out, HG.out⟩
theorem put_partG (x : Pt5) (hx : x.Ok) (p : Pk) (hp : p.Wf) (hr : p.Rng) (w : World) (g : Nat) (R : w.heap[g]? = some (.cells (pcs p).toArray pkT)) (A : Option Addr) (n c : Nat) (bs : List Int) (base : Nat) (hn : bs.length = n) (hO : OwnN .u8 5 base w A c bs) (hlen : n ≤ 1000000) :
    Calls Try.prog 21 #[.agg x.cs.toArray, .slice A n c, .pointer (some ⟨g, 0, none⟩)] w fun e w' => ∃ A' c', e = .returned (.slice A' (n + (x.put p).length) c') ∧ OwnN .u8 5 base w' A' c' (bs ++ x.put p) ∧ w.grownBy w' (A.map (·.block)) := by
  have RR := fun o : Obj => row_kept R ((Below.refl _ _).alloc (Nat.le_refl _) o) (row_lt R)
  have C := fun (i : Nat) (hi : i < 12) (o : Obj) => pk_cell (RR o) hp i hi
  have HN := hO.nums
  have hsz := hx.sz
  obtain ⟨j, sz, lo, hi⟩ := x
  rcases j_cases hx with h | h | h | h | h | h | h | h | h | h | h | h | h
  all_goals
    simp only at h
    subst h
  · have hk : min (max sz 1) 7 = ((sz.toNat : Nat) : Int) := by
      rcases hsz (show 1 ≤ 11 by decide) with h | h <;> (simp only at h; subst h; decide)
    refine (put_session sz lo hi sz.toNat hk w g _ (hr 1) (C 1 (by decide)) A n c bs hn HN hlen).mono ?_
    rintro e w' ⟨A', c', rfl, hO', hb⟩
    refine ⟨A', c', ?_, OwnN.lower hO' hO.2, grown_below hb⟩
    rw [show (Pt5.put ⟨1, sz, lo, hi⟩ p).length = sz.toNat from lay_len _ _]
  · have hk : min (max sz 1) 7 = ((sz.toNat : Nat) : Int) := by
      rcases hsz (show 2 ≤ 11 by decide) with h | h <;> (simp only at h; subst h; decide)
    refine (put_seq sz lo hi sz.toNat hk w g _ (hr 2) (C 2 (by decide)) A n c bs hn HN hlen).mono ?_
    rintro e w' ⟨A', c', rfl, hO', hb⟩
    refine ⟨A', c', ?_, OwnN.lower hO' hO.2, grown_below hb⟩
    rw [show (Pt5.put ⟨2, sz, lo, hi⟩ p).length = sz.toNat from lay_len _ _]
  · have hk : min (max sz 1) 7 = ((sz.toNat : Nat) : Int) := by
      rcases hsz (show 3 ≤ 11 by decide) with h | h <;> (simp only at h; subst h; decide)
    refine (put_user sz lo hi sz.toNat hk w g _ (hr 3) (C 3 (by decide)) A n c bs hn HN hlen).mono ?_
    rintro e w' ⟨A', c', rfl, hO', hb⟩
    refine ⟨A', c', ?_, OwnN.lower hO' hO.2, grown_below hb⟩
    rw [show (Pt5.put ⟨3, sz, lo, hi⟩ p).length = sz.toNat from lay_len _ _]
  · have hk : min (max sz 1) 7 = ((sz.toNat : Nat) : Int) := by
      rcases hsz (show 4 ≤ 11 by decide) with h | h <;> (simp only at h; subst h; decide)
    refine (put_op sz lo hi sz.toNat hk w g _ (hr 4) (C 4 (by decide)) A n c bs hn HN hlen).mono ?_
    rintro e w' ⟨A', c', rfl, hO', hb⟩
    refine ⟨A', c', ?_, OwnN.lower hO' hO.2, grown_below hb⟩
    rw [show (Pt5.put ⟨4, sz, lo, hi⟩ p).length = sz.toNat from lay_len _ _]
  · have hk : min (max sz 1) 7 = ((sz.toNat : Nat) : Int) := by
      rcases hsz (show 5 ≤ 11 by decide) with h | h <;> (simp only at h; subst h; decide)
    refine (put_status sz lo hi sz.toNat hk w g _ (hr 5) (C 5 (by decide)) A n c bs hn HN hlen).mono ?_
    rintro e w' ⟨A', c', rfl, hO', hb⟩
    refine ⟨A', c', ?_, OwnN.lower hO' hO.2, grown_below hb⟩
    rw [show (Pt5.put ⟨5, sz, lo, hi⟩ p).length = sz.toNat from lay_len _ _]
  · have hk : min (max sz 1) 7 = ((sz.toNat : Nat) : Int) := by
      rcases hsz (show 6 ≤ 11 by decide) with h | h <;> (simp only at h; subst h; decide)
    refine (put_count sz lo hi sz.toNat hk w g _ (hr 6) (C 6 (by decide)) A n c bs hn HN hlen).mono ?_
    rintro e w' ⟨A', c', rfl, hO', hb⟩
    refine ⟨A', c', ?_, OwnN.lower hO' hO.2, grown_below hb⟩
    rw [show (Pt5.put ⟨6, sz, lo, hi⟩ p).length = sz.toNat from lay_len _ _]
  · have hk : min (max sz 1) 7 = ((sz.toNat : Nat) : Int) := by
      rcases hsz (show 7 ≤ 11 by decide) with h | h <;> (simp only at h; subst h; decide)
    refine (put_version sz lo hi sz.toNat hk w g _ (hr 7) (C 7 (by decide)) A n c bs hn HN hlen).mono ?_
    rintro e w' ⟨A', c', rfl, hO', hb⟩
    refine ⟨A', c', ?_, OwnN.lower hO' hO.2, grown_below hb⟩
    rw [show (Pt5.put ⟨7, sz, lo, hi⟩ p).length = sz.toNat from lay_len _ _]
  · have hk : min (max sz 1) 7 = ((sz.toNat : Nat) : Int) := by
      rcases hsz (show 8 ≤ 11 by decide) with h | h <;> (simp only at h; subst h; decide)
    refine (put_ack sz lo hi sz.toNat hk w g _ (hr 8) (C 8 (by decide)) A n c bs hn HN hlen).mono ?_
    rintro e w' ⟨A', c', rfl, hO', hb⟩
    refine ⟨A', c', ?_, OwnN.lower hO' hO.2, grown_below hb⟩
    rw [show (Pt5.put ⟨8, sz, lo, hi⟩ p).length = sz.toNat from lay_len _ _]
  · have hk : min (max sz 1) 7 = ((sz.toNat : Nat) : Int) := by
      rcases hsz (show 9 ≤ 11 by decide) with h | h <;> (simp only at h; subst h; decide)
    refine (put_sack sz lo hi sz.toNat hk w g _ (hr 9) (C 9 (by decide)) A n c bs hn HN hlen).mono ?_
    rintro e w' ⟨A', c', rfl, hO', hb⟩
    refine ⟨A', c', ?_, OwnN.lower hO' hO.2, grown_below hb⟩
    rw [show (Pt5.put ⟨9, sz, lo, hi⟩ p).length = sz.toNat from lay_len _ _]
  · have hk : min (max sz 1) 7 = ((sz.toNat : Nat) : Int) := by
      rcases hsz (show 10 ≤ 11 by decide) with h | h <;> (simp only at h; subst h; decide)
    refine (put_nonce sz lo hi sz.toNat hk w g _ (hr 10) (C 10 (by decide)) A n c bs hn HN hlen).mono ?_
    rintro e w' ⟨A', c', rfl, hO', hb⟩
    refine ⟨A', c', ?_, OwnN.lower hO' hO.2, grown_below hb⟩
    rw [show (Pt5.put ⟨10, sz, lo, hi⟩ p).length = sz.toNat from lay_len _ _]
  · have hk : min (max sz 1) 7 = ((sz.toNat : Nat) : Int) := by
      rcases hsz (show 11 ≤ 11 by decide) with h | h <;> (simp only at h; subst h; decide)
    refine (put_epoch sz lo hi sz.toNat hk w g _ (hr 11) (C 11 (by decide)) A n c bs hn HN hlen).mono ?_
    rintro e w' ⟨A', c', rfl, hO', hb⟩
    refine ⟨A', c', ?_, OwnN.lower hO' hO.2, grown_below hb⟩
    rw [show (Pt5.put ⟨11, sz, lo, hi⟩ p).length = sz.toNat from lay_len _ _]
  · refine (putG_secret sz lo hi w g p.s hp.s (fun o => nums_secret (RR o) hp) A n c bs base hn hO hlen).mono ?_
    rintro e w' ⟨A', c', rfl, hO', hb⟩
    refine ⟨A', c', ?_, hO', hb⟩
    rw [show (Pt5.put ⟨12, sz, lo, hi⟩ p).length = 16 from hp.s]
  · refine (putG_tag sz lo hi w g p.t hp.t (fun o => nums_tag (RR o) hp) A n c bs base hn hO hlen).mono ?_
    rintro e w' ⟨A', c', rfl, hO', hb⟩
    refine ⟨A', c', ?_, hO', hb⟩
    rw [show (Pt5.put ⟨13, sz, lo, hi⟩ p).length = 8 from hp.t]
/-- Parts and bytes never share a block. -/
theorem parts_apart {w : World} {A : Option Addr} {c base gA : Nat} {bs : List Int} {l : List Pt5} {t : TypeId} (hO : OwnN .u8 5 base w A c bs) (hb : 0 < bs.length) (hl : l ≠ []) (h : w.heap[gA]? = some (.cells (l.flatMap Pt5.cs).toArray t)) : some gA ≠ A.map (·.block) := by
  intro he
  cases A with
  | none => cases he
  | some a =>
    rcases hO.1.2 with ⟨h1, _⟩ | ⟨b, cap, cur, hv, _, hh, _, _, _, ht⟩
    · cases h1
    · injection hv with hA
      injection hA with hA
      subst hA
      injection he with he
      simp at he
      subst he
      have := h.symm.trans hh
      injection this with this
      injection this with h1 h2
      subst h1
      obtain ⟨x, r, rfl⟩ := List.exists_cons_of_ne_nil hl
      obtain ⟨b0, bs', rfl⟩ := List.exists_cons_of_length_pos hb
      have h0 := congrArg (·[0]?) ht
      simp [Pt5.cs] at h0
      split at h0 <;> cases h0
theorem enc_bad (p : Pk) (hp : p.Wf) (hr : p.right = false) (w : World) : Calls Try.prog 11 #[.agg (pcs p).toArray] w fun e w' => e = .returned (.tuple #[.slice none 0 0, .int .i64 1]) ∧ Below w.heap.size w w' := by
  have R0 := row_new (W := w) (cs := (pcs p).toArray) (t := pkT) (m := (0, 0))
  have B0 : Below w.heap.size w (w.alloc (.cells (pcs p).toArray pkT)) := (Below.refl _ _).alloc (Nat.le_refl _) _
  have HP := Lib.hid hp
  have Hr := Lib.hid hr
  clear hp hr
  go_enter Try.func11, Try.ntmps11
  go_wp2_with (first
    | ((refine wpl_pk ?_ (.tmp 1) ?_ w.heap.size p HP.out ?_ R0 ?_); (rfl); (rfl); (rfl)))
  refine (wright_any p HP.out _).mono ?_
  rintro e w1 ⟨rfl, hB1⟩
  rw [Hr.out]
  go_wp2
  go_ret2
  exact ⟨rfl, B0.trans (hB1.mono B0.size)⟩
set_option maxRecDepth 10000 in
set_option maxHeartbeats 2000000 in
theorem enc_ok (p : Pk) (hp : p.Wf) (hrg : p.Rng) (hr : p.right = true) (w : World) : Calls Try.prog 11 #[.agg (pcs p).toArray] w fun e w' => ∃ A c, e = .returned (.tuple #[.slice A p.enc.length c, .int .i64 0]) ∧ OwnN .u8 5 w.heap.size w' A c p.enc ∧ Below w.heap.size w w' := by
  have R0 := row_new (W := w) (cs := (pcs p).toArray) (t := pkT) (m := (0, 0))
  have B0 : Below w.heap.size w (w.alloc (.cells (pcs p).toArray pkT)) := (Below.refl _ _).alloc (Nat.le_refl _) _
  obtain ⟨K, hK⟩ : ∃ K, p.h.getD 0 0 = K := ⟨_, rfl⟩
  obtain ⟨l, hl⟩ : ∃ l, held K = l := ⟨_, rfl⟩
  obtain ⟨n, hn⟩ : ∃ n, l.length = n := ⟨_, rfl⟩
  have hn7 : n ≤ 7 := by rw [← hn, ← hl]; exact held_len K
  have Hok := Lib.hid (show ∀ x ∈ l, x.Ok by rw [← hl]; exact held_ok K)
  have Henc := Lib.hid (show p.laid l = p.enc by unfold Pk.enc; rw [show p.kind = K from hK, hl])
  have Hnil := Lib.hid (show p.laid [] = lay K 1 by unfold Pk.laid; rw [show p.kind = K from hK]; simp)
  have HKR := Lib.hid (show -9223372036854775808 ≤ K ∧ K ≤ 9223372036854775807 by rw [← hK]; exact hrg 0)
  have HP := Lib.hid hp
  have Hr := Lib.hid hr
  have HRg := Lib.hid hrg
  have zpt := zero_pt
  have Hl := Lib.hid hl
  have Hn := Lib.hid hn
  have HC0 := Lib.hid (show ∀ W : World, W.heap[w.heap.size]? = some (.cells (pcs p).toArray pkT) → W.cell? ⟨w.heap.size, 0, none⟩ = some (.int .i64 K) from fun W h => by rw [pk_cell h hp 0 (by decide), hK])
  clear hp hr hrg hK hl hn
  go_enter Try.func11, Try.ntmps11
  go_wp2_with (first
    | ((refine wpl_pk ?_ (.tmp 1) ?_ w.heap.size p HP.out ?_ R0 ?_); (rfl); (rfl); (rfl)))
  refine (wright_any p HP.out _).mono ?_
  rintro e w1 ⟨rfl, hB1⟩
  rw [Hr.out]
  have R1 := row_kept R0 hB1 (row_lt R0)
  have B1 := B0.trans (hB1.mono B0.size)
  have c1 := HC0.out _ R1
  clear hB1 B0 R0
  go_wp2_with fail
  refine (put_any w1 none 0 0 [] rfl Nums.nil (by decide) K 1 HKR.out 1 rfl).mono ?_
  rintro e w2 ⟨A2, c2, rfl, hO2, hB2⟩
  rw [show (0 + 1 : Nat) = 1 from rfl]
  rw [List.nil_append] at hO2
  have R2 := row_kept R1 hB2 (row_lt R1)
  have B2 := B1.trans (hB2.mono B1.size)
  have c2' := HC0.out _ R2
  have HO2 := Lib.hid hO2
  have hlt := row_lt R1
  clear hB2 B1 R1 c1 hO2
  go_wp2_with fail
  refine (held_any K w2).mono ?_
  rintro e w3 ⟨A3, rfl, HA, hB3⟩
  rw [Hl.out, Hn.out]
  rw [Hl.out] at HA
  have R3 := row_kept R2 hB3 (row_lt R2)
  have B3 := B2.trans (hB3.mono B2.size)
  have HO3 := Lib.hid (own_up HO2.out hB3 (Nat.le_refl _))
  have HR3 := Lib.hid (And.intro R3 (And.intro B3 HA))
  clear hB3 B2 R2 c2' HO2 R3 B3 HA
  go_wp2_with fail
  go_loopw [4, 17] (fun v i wr => ∃ (k : Nat) (A : Option Addr) (c : Nat), k ≤ n ∧ i = .int .i64 k ∧ v = .slice A (p.laid (l.take k)).length c ∧ OwnN .u8 5 w1.heap.size wr A c (p.laid (l.take k)) ∧ wr.heap[w.heap.size]? = some (.cells (pcs p).toArray pkT) ∧ PtsAt wr A3 l ∧ Below w.heap.size w wr) (fun _ i _ => n - (intOf i).toNat)
  case atStart => exact ⟨0, A2, c2, Nat.zero_le _, rfl, (by rw [List.take_zero, Hnil.out]; rfl), (by rw [List.take_zero, Hnil.out]; exact HO3.out), HR3.out.1, HR3.out.2.2, HR3.out.2.1⟩
  case round =>
    obtain ⟨k, A, c, hk, rfl, rfl, hO, R1, HA, hB⟩ := hrel
    clear HR3 HO3
    have HO := Lib.hid hO
    clear hO
    have hlen1 : 0 < (p.laid (l.take k)).length := by unfold Pk.laid; rw [List.length_append, lay_len]; omega
    have hlen2 : (p.laid (l.take k)).length ≤ 1000000 := by
      have := Pk.laid_len HP.out (l.take k) (fun x hx => Hok.out x (List.mem_of_mem_take hx))
      have h2 : (l.take k).length ≤ 7 := by rw [List.length_take]; omega
      omega
    by_cases hkn : k < n
    · obtain ⟨x, hx⟩ : ∃ x, l[k]? = some x := ⟨_, List.getElem?_eq_getElem (by rw [Hn.out]; exact hkn)⟩
      have hxo := Hok.out x (List.mem_of_getElem? hx)
      have hl0 : l ≠ [] := fun h0 => by rw [h0] at hx; cases hx
      rcases HA with h0 | ⟨gA, tA, rfl, RA⟩
      · exact absurd h0 hl0
      have RX := range5 RA hx
      have HXO := Lib.hid hxo
      have Htake := Lib.hid (take_snoc5 hx)
      have ptn := fun W => pt_new x W
      have q0 : (0 : Int) ≤ (k : Int) := by omega
      have q1 : (k : Int) < (n : Int) := by omega
      have q2 : (n : Int) ≤ 7 := by omega
      have Hb := Lib.hid (And.intro hlen1 (And.intro hlen2 hl0))
      clear hx hxo hlen1 hlen2 hl0
      obtain ⟨m, hm⟩ : ∃ m, (p.laid (l.take k)).length = m := ⟨_, rfl⟩
      rw [hm] at Hb ⊢
      have Hm := Lib.hid hm
      clear hm
      go_wp2_with (first
        | (refine wpList_load_mid rfl ptT (.tmp 19) rfl gA (k * 5) rfl x.cs _ RX Try.underlying46 rfl (by rw [info_pt]; rfl) ?_))
      have AT := (Below.refl wr.heap.size wr).alloc (Nat.le_refl _) (.cells x.cs.toArray ptT)
      have R1t := row_kept R1 AT (row_lt R1)
      have RAt := row_kept RA AT (row_lt RA)
      have hOt := HO.out.alloc (.cells x.cs.toArray ptT)
      have Bt := hB.alloc hB.size (.cells x.cs.toArray ptT)
      have hne1 : some w.heap.size ≠ A.map (·.block) := by
        intro he
        cases A with
        | none => cases he
        | some a =>
          have he' : w.heap.size = a.block := Option.some.inj he
          have := (HO.out.block' rfl).1
          omega
      have hne2 := parts_apart hOt (by rw [Hm.out]; exact Hb.out.1) Hb.out.2.2 RAt
      refine (put_partG x HXO.out p HP.out HRg.out _ w.heap.size R1t A m c (p.laid (l.take k)) w1.heap.size Hm.out hOt Hb.out.2.1).mono ?_
      rintro e w4 ⟨A4, c4, rfl, hO4, hG⟩
      have R14 := (hG.block _ (row_lt R1t) hne1).trans R1t
      have RA4 := (hG.block _ (row_lt RAt) hne2).trans RAt
      have hbl : ∀ g, A.map (·.block) = some g → w.heap.size ≤ g := fun g hg => by
        cases A with
        | none => cases hg
        | some a =>
          have hg' : a.block = g := Option.some.inj hg
          have := (HO.out.block' rfl).1
          omega
      have B4 := Bt.grown hG Bt.size hbl
      have HO4 := Lib.hid hO4
      clear hO4 hG hne1 hne2 Bt hOt RAt R1t AT RX ptn hbl R1 RA hB HO
      go_wp2_with fail
      go_roundw
      case rel =>
        refine ⟨k + 1, A4, c4, by omega, by go_num, ?_, ?_, R14, Or.inr ⟨gA, tA, rfl, RA4⟩, B4⟩
        · rw [Htake.out, Pk.laid_snoc, List.length_append, Hm.out]
        · rw [Htake.out, Pk.laid_snoc]; exact HO4.out
      case measure => simp [intOf]; omega
    · obtain rfl : k = n := by omega
      rw [List.take_of_length_le (by rw [Hn.out]; exact Nat.le_refl _)] at HO ⊢
      rw [Henc.out] at HO ⊢
      clear hlen1 hlen2
      go_wp2
      go_ret2
      exact ⟨A, c, rfl, OwnN.lower HO.out (by omega), hB⟩
end Go.Proofs.Ytnfdfnkhjlkdhaa
