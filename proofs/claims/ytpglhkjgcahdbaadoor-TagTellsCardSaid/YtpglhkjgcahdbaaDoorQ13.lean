/- Texts of this proof, merged: TagGood, PutRef, MacOwn, DigRef, ShaMath2, Mem3a. -/
import Derived.Test.YtpglhkjgcahdbaaDoorQ12
import Derived.Test.YtpglhkjgcahdbaaDoorQ6
import Derived.Test.YtpglhkjgcahdbaaDoorQ5
import Derived.Test.YtpglhkjgcahdbaaDoorQ7
import Derived.ArgAppend
import Derived.Test.YtpglhkjgcahdbaaDoorQ1
import Derived.Test.YtpglhkjgcahdbaaDoorQ2
import Derived.Deep.RegionLaw
/- Whether a packet is good. -/
namespace Go.Proofs.YtpglhkjgcahdbaaDoor
open Go.ChangeShapes Go.WideShapes Go.ChangeAt Go.RowKit
/-- Whether a packet has the tag that it should have. -/
def gdB (key : List Int) (p : Pk) : Bool := sgOk p && decide (sgTag key p = p.t)
theorem gdB_eq (key : List Int) (p : Pk) : gdB key p = (sgOk p && decide ((sgPk key p).t = p.t)) := by
  unfold gdB sgPk
  generalize sgTag key p = t
  cases sgOk p
  · rw [Bool.false_and, Bool.false_and]
  · rw [if_pos rfl]; rfl
theorem sgPk_wf (key : List Int) {p : Pk} (hp : p.Wf) : (sgPk key p).Wf := by
  unfold sgPk
  split
  · exact setT_wf hp (sgTag_len key p)
  · exact pk0_wf
set_option maxRecDepth 100000 in
set_option maxHeartbeats 2000000 in
theorem good_any (w : World) (key : List Int) (hk : key.length = 16) (hkw : ∀ z ∈ key, 0 ≤ z ∧ z < 256) (p : Pk) (hp : p.Wf) (hrg : p.Rng) (hps : ∀ z ∈ p.s, 0 ≤ z ∧ z < 256) (ht : Kt w) (b : Bool) (hb : gdB key p = b) :
    Calls Tryd.prog 13 #[.agg (nrow .u8 key).toArray, .agg (pcs p).toArray] w fun e w' => e = .returned (.bool b) ∧ Below w.heap.size w w' := by
  have zpk := zero_pk
  have A0 : Below w.heap.size w (w.alloc (.cells (nrow .u8 key).toArray b16T)) := (Below.refl _ _).alloc (Nat.le_refl _) _
  have A1 := A0.alloc A0.size (.cells (pcs p).toArray pkT)
  have RK := row_new (W := w) (cs := (nrow .u8 key).toArray) (t := b16T) (m := (0, 0))
  have RP : ((w.alloc (.cells (nrow .u8 key).toArray b16T)).alloc (.cells (pcs p).toArray pkT)).heap[w.heap.size + 1]? = some (.cells (pcs p).toArray pkT) := by
    have := row_new (W := w.alloc (.cells (nrow .u8 key).toArray b16T)) (cs := (pcs p).toArray) (t := pkT) (m := (0, 0))
    simpa using this
  have RK := row_kept RK ((Below.refl _ _).alloc (Nat.le_refl _) (.cells (pcs p).toArray pkT)) (row_lt RK)
  have LK : (nrow .u8 key).length = 16 := by rw [nrow_len]; exact hk
  obtain ⟨q, hq⟩ : ∃ q, sgPk key p = q := ⟨_, rfl⟩
  obtain ⟨ok, hok⟩ : ∃ ok, sgOk p = ok := ⟨_, rfl⟩
  have hqw : q.Wf := by rw [← hq]; exact sgPk_wf key hp
  have pkn := fun W => pk_new hqw W
  have HE := Lib.hid (fun W ht => sign_any W key hk hkw p hp hrg hps ht q hq ok hok)
  have EQ := fun W => eql_b8 W q.t p.t hqw.t hp.t
  have Hb := Lib.hid (show (ok && decide (q.t = p.t)) = b by
    rw [← hb, ← hok, ← hq]
    exact (gdB_eq key p).symm)
  have HQ := Lib.hid hqw
  have LQ := pcs_len hqw
  have HP := Lib.hid hp
  have HT := Lib.hid ht
  clear A0 hp hk hkw hrg hps ht hq hok hqw hb
  go_enter Tryd.func13, Tryd.ntmps13
  go_upto_region 1 with (fail)
  generalize (w.alloc (.cells (nrow .u8 key).toArray b16T)).alloc (.cells (pcs p).toArray pkT) = W0 at RK RP A1 ⊢
  go_wp2_with (first
    | ((with_reducible refine wpl_arr Tryd.underlying23 info_b16 ?_ (.tmp 2) ?_ w.heap.size (nrow .u8 key) LK ?_ RK ?_); (rfl); (rfl); (rfl))
    | ((refine wpl_pk ?_ (.tmp 3) ?_ (w.heap.size + 1) p HP.out ?_ RP ?_); (rfl); (rfl); (rfl)))
  refine (HE.out _ (HT.out.keep A1 HT.out.2)).mono ?_
  rintro e w2 ⟨rfl, hB⟩
  have RP := row_kept RP hB (row_lt RP)
  have A2 := A1.trans (hB.mono A1.size)
  clear hB A1 RK HE
  go_upto_region 2 with (fail)
  have AN := (Below.refl w2.heap.size w2).alloc (Nat.le_refl _) (.cells (pcs q).toArray pkT)
  have RQ := row_new (W := w2) (cs := (pcs q).toArray) (t := pkT) (m := (0, 0))
  have RP := row_kept RP AN (row_lt RP)
  have A3 := A2.trans (AN.mono A2.size)
  generalize w2.alloc (.cells (pcs q).toArray pkT) = V at RQ RP A3 ⊢
  have TP := Lib.hid (range_tag RP HP.out)
  have TQ := Lib.hid (range_tag RQ HQ.out)
  clear AN A2 pkn RP RQ
  cases ok
  · have hb0 : b = false := by rw [← Hb.out]; rfl
    subst hb0
    go_wp2
    go_ret
    exact ⟨rfl, A3⟩
  · have hb0 : decide (q.t = p.t) = b := by rw [← Hb.out]; rfl
    rw [hb0] at EQ
    go_wp2_with (first
      | ((refine wpl_tag ?_ (.tmp 15) ?_ w2.heap.size 28 q.t HQ.out.t ?_ TQ.out ?_); (rfl); (rfl); (rfl))
      | ((refine wpl_tag ?_ (.tmp 17) ?_ (w.heap.size + 1) 28 p.t HP.out.t ?_ TP.out ?_); (rfl); (rfl); (rfl)))
    go_ret
    exact ⟨rfl, A3⟩
end Go.Proofs.YtpglhkjgcahdbaaDoor
/- Numbers as bytes: Put, by the document's own. -/
namespace Go.Proofs.YtpglhkjgcahdbaaDoor.ref04
open Go.ChangeShapes Go.WideShapes Go.ChangeAt Go.RowKit
theorem bounded_any (s : Int) (w : World) :
    Calls Tryd.prog 60 #[.int .i64 s] w fun e w' => e = .returned (.int .i64 (min (max s 1) 7)) ∧ w = w' := by
  go_enter Tryd.func60, Tryd.ntmps60
  go_wp2
  all_goals (go_ret; exact ⟨ret_int (by omega), rfl⟩)

set_option maxHeartbeats 2000000 in
theorem put_any (w : World) (A : Option Addr) (n c : Nat) (bs : List Int) (hn : bs.length = n) (hN : Nums .u8 w A bs) (hlen : n ≤ 1000000) (x s : Int) (wx : -9223372036854775808 ≤ x ∧ x ≤ 9223372036854775807) (k : Nat) (hk : min (max s 1) 7 = (k : Int)) :
    Calls Tryd.prog 34 #[.slice A n c, .int .i64 x, .int .i64 s] w fun e w' => ∃ A' c', e = .returned (.slice A' (n + k) c') ∧ OwnN .u8 5 w.heap.size w' A' c' (bs ++ lay x k) ∧ Below w.heap.size w w' := by
  obtain ⟨i0, hi, hz0, hz1, hz2⟩ := info_parts info8
  have HI := Lib.hid (And.intro hi (And.intro hz0 (And.intro hz1 hz2)))
  clear hi hz0 hz1 hz2
  have Hk := Lib.hid hk
  have k1 : 1 ≤ k := by omega
  have k7 : k ≤ 7 := by omega
  clear hk
  have Hn := Lib.hid hn
  have HN := Lib.hid hN
  clear hN
  cases A with
  | none =>
    obtain rfl : bs = [] := by
      rcases HN.out with h | ⟨b, off, h, _⟩
      · exact h
      · cases h
    obtain rfl : n = 0 := by have := Hn.out; simpa using this.symm
    go_enter Tryd.func34, Tryd.ntmps34
    go_wp2_with (first
      | (go_at_call 60; refine (bounded_any _ _).mono ?_; rintro e w' ⟨rfl, rfl⟩; rw [Hk.out])
      )
    have hO1 : OwnN .u8 5 w.heap.size (w.alloc (.cells #[] 5)) (some ⟨w.heap.size, 0, none⟩) 0 [] := OwnN.empty (Nat.le_refl _)
    have hB1 : Below w.heap.size w (w.alloc (.cells #[] 5)) := (Below.refl _ _).alloc (Nat.le_refl _) _
    have HO1 := Lib.hid hO1
    clear hO1
    go_loopw [7, 8] (fun v i wr => ∃ (j : Nat) (A' : Option Addr) (c' : Nat), j ≤ k ∧ i = .int .i64 ((k : Int) - 1 - j) ∧ v = .slice A' j c' ∧ OwnN .u8 5 w.heap.size wr A' c' ((lay x k).take j) ∧ Below w.heap.size w wr) (fun _ i _ => (intOf i + 1).toNat)
    case atStart => exact ⟨0, some ⟨w.heap.size, 0, none⟩, 0, Nat.zero_le _, by simp, rfl, by simpa using HO1.out, hB1⟩
    case round =>
      obtain ⟨j, A', c', hj, rfl, rfl, hO, hB⟩ := hrel
      have HO := Lib.hid hO
      clear hO hB1
      by_cases hjk : j < k
      · obtain ⟨t, ht⟩ : ∃ t : Nat, (k : Int) - 1 - j = t := ⟨k - 1 - j, by omega⟩
        rw [ht]
        have Ht := Lib.hid ht
        have htk : t = 0 ∨ t = 1 ∨ t = 2 ∨ t = 3 ∨ t = 4 ∨ t = 5 ∨ t = 6 := by omega
        have Hl := Lib.hid (lay_snoc x k j t hjk ht)
        clear ht
        rcases htk with rfl | rfl | rfl | rfl | rfl | rfl | rfl
        all_goals
          have Hlen := Lib.hid (show ((lay x k).take j).length = j by rw [List.length_take, lay_len]; omega)
          go_wp2_with (first
            | (at_builtin; refine wpList_append_num rfl _ _ 22 rfl i0 1 Tryd.underlying22 HI.out.1 HI.out.2.1 HI.out.2.2.1 HI.out.2.2.2 (by decide) _ Hlen.out rfl (HO.out.alloc _) ⟨wr.heap.size, 0, none⟩ _ _ rfl (alloc_cell0 _ _ _ _ rfl) (by rw [Hlen.out]; omega) w.heap.size w (Nat.le_refl _) (hB.alloc hB.size _) ?_; intro A2 c2 w2 hO2 hb2)
            )
          go_roundw
          case rel => exact ⟨j + 1, A2, c2, by omega, by have := Ht.out; refine congrArg _ ?_; omega, rfl, by rw [Hl.out]; simpa [byt] using hO2, hb2⟩
          case measure => simp [intOf]
      · obtain rfl : j = k := by omega
        have e : (lay x j).take j = lay x j := List.take_of_length_le (by rw [lay_len]; exact Nat.le_refl _)
        have HE := Lib.hid e
        clear e
        go_wp2
        go_ret
        exact ⟨A', c', by simp, by have := HO.out; rwa [HE.out] at this, hB⟩
  | some a =>
    go_enter Tryd.func34, Tryd.ntmps34
    go_wp2_with (first
      | (at_builtin; refine wpList_append_row rfl _ _ 22 rfl i0 1 Tryd.underlying22 HI.out.1 HI.out.2.1 HI.out.2.2.1 HI.out.2.2.2 (by decide) 0 rfl rfl (OwnN.empty (base := w.heap.size) (Nat.le_refl _)) a n _ bs rfl Hn.out (HN.out.alloc _) (by simp <;> omega) w.heap.size w (Nat.le_refl _) ((Below.refl _ _).alloc (Nat.le_refl _) _) ?_; intro A1 c1 w1 hO1 hB1)
      | (go_at_call 60; refine (bounded_any _ _).mono ?_; rintro e w' ⟨rfl, rfl⟩; rw [Hk.out])
      )
    have HO1 := Lib.hid hO1
    clear hO1
    go_loopw [7, 8] (fun v i wr => ∃ (j : Nat) (A' : Option Addr) (c' : Nat), j ≤ k ∧ i = .int .i64 ((k : Int) - 1 - j) ∧ v = .slice A' (n + j) c' ∧ OwnN .u8 5 w.heap.size wr A' c' (bs ++ (lay x k).take j) ∧ Below w.heap.size w wr) (fun _ i _ => (intOf i + 1).toNat)
    case atStart => exact ⟨0, A1, c1, Nat.zero_le _, by simp, rfl, by simpa using HO1.out, hB1⟩
    case round =>
      obtain ⟨j, A', c', hj, rfl, rfl, hO, hB⟩ := hrel
      have HO := Lib.hid hO
      clear hO hB1
      by_cases hjk : j < k
      · obtain ⟨t, ht⟩ : ∃ t : Nat, (k : Int) - 1 - j = t := ⟨k - 1 - j, by omega⟩
        rw [ht]
        have Ht := Lib.hid ht
        have htk : t = 0 ∨ t = 1 ∨ t = 2 ∨ t = 3 ∨ t = 4 ∨ t = 5 ∨ t = 6 := by omega
        have Hl := Lib.hid (lay_snoc x k j t hjk ht)
        clear ht
        rcases htk with rfl | rfl | rfl | rfl | rfl | rfl | rfl
        all_goals
          have Hlen := Lib.hid (show (bs ++ (lay x k).take j).length = n + j by rw [List.length_append, List.length_take, lay_len, hn]; omega)
          go_wp2_with (first
            | (at_builtin; refine wpList_append_num rfl _ _ 22 rfl i0 1 Tryd.underlying22 HI.out.1 HI.out.2.1 HI.out.2.2.1 HI.out.2.2.2 (by decide) _ Hlen.out rfl (HO.out.alloc _) ⟨wr.heap.size, 0, none⟩ _ _ rfl (alloc_cell0 _ _ _ _ rfl) (by rw [Hlen.out]; omega) w.heap.size w (Nat.le_refl _) (hB.alloc hB.size _) ?_; intro A2 c2 w2 hO2 hb2)
            )
          go_roundw
          case rel => exact ⟨j + 1, A2, c2, by omega, by have := Ht.out; refine congrArg _ ?_; omega, rfl, by rw [Hl.out, ← List.append_assoc]; simpa [byt] using hO2, hb2⟩
          case measure => simp [intOf]
      · obtain rfl : j = k := by omega
        have e : (lay x j).take j = lay x j := List.take_of_length_le (by rw [lay_len]; exact Nat.le_refl _)
        have HE := Lib.hid e
        clear e
        go_wp2
        go_ret
        exact ⟨A', c', rfl, by have := HO.out; rwa [HE.out] at this, hB⟩

end Go.Proofs.YtpglhkjgcahdbaaDoor.ref04
/- Append of one number to a row of the call's own: the row that was stays as it was, and may be written. A byte turned is another byte. No program in it. -/
namespace Go.Proofs.YtpglhkjgcahdbaaDoor
open Go.ChangeShapes Go.WideShapes Go.ChangeAt Go.RowKit
theorem bv_xor_self {a b : BitVec 8} (h : a ^^^ b = a) : b = 0 := by
  have e : a ^^^ (a ^^^ b) = b := by rw [← BitVec.xor_assoc, BitVec.xor_self, BitVec.zero_xor]
  rw [h, BitVec.xor_self] at e
  exact e.symm
theorem Mac.xor8_ne {x c : Int} (hx : 0 ≤ x ∧ x < 256) (hc : 0 ≤ c ∧ c < 256) (h0 : c ≠ 0) : Mac.xor8 x c ≠ x := by
  intro h
  unfold Mac.xor8 at h
  have h' : IntKind.u8.wrap ((BitVec.ofInt 8 x ^^^ BitVec.ofInt 8 c).toNat : Int) = x := h
  rw [IntKind.wrap_u8] at h'
  have hlt : (BitVec.ofInt 8 x ^^^ BitVec.ofInt 8 c).toNat < 256 := (BitVec.ofInt 8 x ^^^ BitVec.ofInt 8 c).isLt
  have ha : ((BitVec.ofInt 8 x).toNat : Int) = x := by rw [BitVec.toNat_ofInt]; omega
  have hb : ((BitVec.ofInt 8 c).toNat : Int) = c := by rw [BitVec.toNat_ofInt]; omega
  have e : BitVec.ofInt 8 x ^^^ BitVec.ofInt 8 c = BitVec.ofInt 8 x := by
    apply BitVec.eq_of_toNat_eq
    omega
  have h2 := bv_xor_self e
  rw [h2] at hb
  exact h0 (by simpa using hb.symm)
theorem set_ne (l : List Int) (i : Nat) (h : i < l.length) {y : Int} (hy : y ≠ l.getD i 0) : l ≠ l.set i y := by
  intro e
  have := congrArg (fun m => m.getD i 0) e
  simp [List.getD, h] at this
  simp [List.getD, h] at hy
  exact hy this.symm
theorem app_ne (l : List Int) (c : Int) : l ≠ l ++ [c] := by
  intro e
  have := congrArg List.length e
  simp at this
section
variable {k : IntKind} {w w' : World} {A : Option Addr} {l : List Int} {E : TypeId} {base c : Nat}
/-- The cells of a row of the call's own, whatever lies behind them. -/
def OldN (k : IntKind) (E : TypeId) (base : Nat) (w : World) (A : Option Addr) (l : List Int) : Prop :=
  l = [] ∨ ∃ g cur, A = some ⟨g, 0, none⟩ ∧ base ≤ g ∧ w.heap[g]? = some (.cells cur E) ∧ cur.toList.take l.length = l.map (Value.int k)
theorem cur_at {cur : Array Value} {n : Nat} (h : cur.toList.take l.length = l.map (Value.int k)) (hn : n < l.length) : cur[n]? = some (.int k (l.getD n 0)) := by
  have h2 : (cur.toList.take l.length)[n]? = some (.int k (l.getD n 0)) := by rw [h]; simp [List.getD, hn]
  rw [List.getElem?_take, if_pos hn] at h2
  simpa using h2
theorem OldN.nums (h : OldN k E base w A l) : Nums k w A l := by
  rcases h with h | ⟨g, cur, rfl, _, hh, htk⟩
  · exact Or.inl h
  · exact Or.inr ⟨g, 0, rfl, row_lt hh, fun i hi => by rw [Nat.zero_add, cell_of_row _ _ _ _ _ _ hh]; exact cur_at htk hi⟩
theorem OldN.put (h : OldN k E base w A l) (i : Nat) (hi : i < l.length) : ∃ g cur, A = some ⟨g, 0, none⟩ ∧ base ≤ g ∧ w.heap[g]? = some (.cells cur E) ∧ cur[i]? = some (.int k (l.getD i 0)) ∧ ∀ y, Nums k (setRow w g E (cur.setIfInBounds i (.int k y))) A (l.set i y) := by
  rcases h with h | ⟨g, cur, rfl, hb, hh, htk⟩
  · rw [h] at hi; cases hi
  · refine ⟨g, cur, rfl, hb, hh, cur_at htk hi, fun y => Or.inr ⟨g, 0, rfl, by rw [setRow_size]; exact row_lt hh, fun j hj => ?_⟩⟩
    rw [List.length_set] at hj
    rw [Nat.zero_add, cell_of_row _ _ _ _ _ _ (row_written hh)]
    have hz : i < cur.size := by
      have := cur_at htk hi
      rcases Nat.lt_or_ge i cur.size with h1 | h1
      · exact h1
      · rw [Array.getElem?_eq_none h1] at this; cases this
    by_cases hij : i = j
    · subst hij
      rw [Array.getElem?_setIfInBounds_self_of_lt hz]
      simp [List.getD, hj]
    · rw [Array.getElem?_setIfInBounds_ne hij, cur_at htk hj]
      simp [List.getD, List.getElem?_set, hij]
theorem wpList_append_num_keep {P : Program} {Q : Exit → Act → World → Prop} {ops : Array Oper} {rest : List Oper} {o : Oper} {a : Act} (hgd : Region.wanted o (yielded ops a.tmps) = true) (s x : Operand) (t : TypeId)
    (ho : o.op = .call { callee := .builtin .append, args := #[s, x], argTypes := #[t, t] })
    (i : TypeInfo) (bytes : Nat) (ht : P.underlying t = some (.slice E)) (hi : P.info? E = some i) (hz : i.zero = some (.int k 0)) (hsize : i.size = 1) (hby : i.bytes = bytes) (hb8 : bytes ≤ 8)
    (n : Nat) (hn : l.length = n) (hs : a.eval s = .slice A n c) (hown : OwnN k E base w A c l)
    (ad : Addr) (cc : Nat) (x0 : Int) (hx : a.eval x = .slice (some ad) 1 cc) (hcell : w.cell? ad = some (.int k x0)) (hlen : l.length < 17592186044415)
    (B : Nat) (W0 : World) (hB : B ≤ base) (hbelow : Below B W0 w)
    (h : ∀ A' c' w', Nums k w' A' (l ++ [x0]) → OldN k E base w' A l → Below B W0 w' → wpList P ops Q rest (a.put o.dst (.slice A' (n + 1) c')) w') : wpList P ops Q (o :: rest) a w := by
  subst hn
  refine BigFrame.wpList_want hgd fun K hK => ?_
  have hnews : ∀ j u, [Value.int k x0][j]? = some u → w.cell? (ad.add j) = some u := by
    intro j u hj
    match j, hj with
    | 0, hj =>
      simp at hj; subst hj
      simpa [Addr.add] using hcell
  have h1 : ∀ u ∈ [Value.int k x0], u.oneCell' = true := by
    intro u hu
    simp at hu; subst hu; rfl
  have hbytes : (l.length + 1) * bytes ≤ 140737488355328 := by
    have : (l.length + 1) * bytes ≤ (l.length + 1) * 8 := Nat.mul_le_mul_left _ hb8
    omega
  have fin : ∀ (b2 : Nat) (v' : Value) (w1 : World), base ≤ b2 → w1.ownsRow b2 E 1 v' (l.length + 1) (l.map (Value.int k) ++ [Value.int k x0]) → w.grownBy w1 (A.map (·.block)) → OldN k E base w1 A l → K (a.put o.dst v') w1 := by
    intro b2 v' w1 hb2 hown' hgrow hold
    have hb1 : Below B W0 w1 := hbelow.grown hgrow (by have := hown.2; omega) (fun g hg => by
      cases A with
      | none => cases hg
      | some a0 =>
        have := (hown.1.lt a0.block rfl).1
        simp at hg
        omega)
    have hlen1 : (l ++ [x0]).length = l.length + 1 := by simp
    rcases hown'.2 with ⟨_, h0⟩ | ⟨g, cap, cur, hv, g1, g2, g3, g4, g5, g6⟩
    · omega
    · subst hv
      refine hK _ _ (h _ _ w1 (Nums.of_own (k := k) (zs := l ++ [x0]) (n := l.length + 1) (c := cap) (e := E) (base := b2) (by rw [List.map_append]; exact hown') (by simp)) hold hb1)
  rcases hown.1.2 with ⟨hv, h0⟩ | ⟨g, cap, cur, hv, r1, r2, r3, r4, r5, r6⟩
  · injection hv with e1 e2 e3
    subst e1
    have hl : l = [] := List.eq_nil_of_length_eq_zero h0
    subst hl
    subst e3
    refine wp_append_own w s x t ho w.heap.size E i (.int k 0) 1 bytes ht hi hz hsize hby rfl (by decide) _ 0 [] hs (World.ownsRow_nil _ _ _ _) ad 1 cc [.int k x0] hx rfl hnews h1 (by unfold maxLen; omega) (by simpa using hbytes) (Nat.le_refl _) ?_
    intro v' w1 hown' hgrow _
    exact fin w.heap.size v' w1 hown.2 (by simpa using hown') hgrow (Or.inl rfl)
  · injection hv with e1 e2 e3
    subst e1
    subst e3
    by_cases hroom : l.length + 1 ≤ c
    · obtain ⟨w1, hr, g1, g2⟩ := run_append_fits (P := P) w base t o.type E i 1 ht hi hsize g l.length c (l.map (Value.int k)) hown.1 ad 1 cc [.int k x0] rfl hnews h1 hroom
      unfold Oper.wp execOp
      simp only [ho, resolve, invoke, builtin, Sem.run_bind, Sem.run_pure, Result.andThen_ok, List.map_toArray, List.map_cons, List.map_nil, hs, hx, hr]
      refine fin base _ w1 (Nat.le_refl _) g1 g2 ?_
      rcases g1.2 with ⟨_, h0⟩ | ⟨g', cap', cur', hv', q1, q2, q3, q4, q5, q6⟩
      · omega
      · injection hv' with e1
        injection e1 with e1
        injection e1 with e1
        subst e1
        refine Or.inr ⟨g, cur', rfl, q1, q2, ?_⟩
        have := congrArg (List.take l.length) q6
        rw [List.take_take, Nat.min_eq_left (by omega), List.take_left' (by simp)] at this
        exact this
    · obtain ⟨v', w1, hr, g1, g2⟩ := run_append_arg_grows (P := P) w t o.type E i (.int k 0) 1 bytes ht hi hz hsize hby rfl (by decide) ⟨g, 0, none⟩ l.length c (l.map (Value.int k)) hown.1.1 (hown.1.cells rfl) ad 1 cc [.int k x0] rfl hnews (by omega) (by unfold maxLen; omega) hbytes
      unfold Oper.wp execOp
      simp only [ho, resolve, invoke, builtin, Sem.run_bind, Sem.run_pure, Result.andThen_ok, List.map_toArray, List.map_cons, List.map_nil, hs, hx, hr]
      refine fin w.heap.size v' w1 hown.2 g1 ⟨g2.1, g2.2, g2.3, g2.4, fun k hk _ => g2.5 k hk (by simp)⟩ ?_
      exact Or.inr ⟨g, cur, rfl, r1, (g2.5 g (row_lt r2) (by simp)).trans r2, by rw [← r6, Nat.mul_one]⟩
end
end Go.Proofs.YtpglhkjgcahdbaaDoor
/- The document's own digest: its constants, and what is laid behind the bytes. -/
namespace Go.Proofs.YtpglhkjgcahdbaaDoor
open Go.ChangeShapes Go.WideShapes Go.ChangeAt Go.RowKit
def sliceLen : Value → Nat
  | .slice _ n _ => n
  | _ => 0
theorem rep_snoc (l : List Int) (j : Nat) : l ++ List.replicate j 0 ++ [0] = l ++ List.replicate (j + 1) 0 := by
  rw [List.append_assoc, ← List.replicate_succ']
theorem own_eq {k : IntKind} {E : TypeId} {base : Nat} {w : World} {A : Option Addr} {c : Nat} {l : List Int} {a b : Int} (h : OwnN k E base w A c (l ++ [a])) (e : a = b) : OwnN k E base w A c (l ++ [b]) := by rw [← e]; exact h
theorem take_snoc8 (n i : Nat) (h : i < 8) : (Sha.len8 n).take (i + 1) = (Sha.len8 n).take i ++ [((n * 8 / 256 ^ (7 - i) % 256 : Nat) : Int)] := by
  rw [List.take_succ_eq_append_getElem (by rw [Sha.len_len8]; exact h)]
  have := Sha.len8_at n (7 - i) (by omega)
  rw [show 7 - (7 - i) = i by omega] at this
  rw [← this]
  simp [List.getD, show i < (Sha.len8 n).length by rw [Sha.len_len8]; exact h]
set_option maxHeartbeats 1000000 in
theorem rpadded_any (w : World) (A : Option Addr) (n cap : Nat) (bs : List Int) (hn : bs.length = n) (hN : Nums .u8 w A bs) (hlen : n ≤ 1000000) :
    Calls Tryd.prog 61 #[.slice A n cap] w fun e w' => ∃ A' c', e = .returned (.slice A' (Sha.nblocks n * 64) c') ∧ OwnN .u8 5 w.heap.size w' A' c' (Sha.pad bs) ∧ Below w.heap.size w w' := by
  obtain ⟨i0, hi, hz0, hz1, hz2⟩ := info_parts infoB
  have HI := Lib.hid (And.intro hi (And.intro hz0 (And.intro hz1 hz2)))
  have Hn := Lib.hid hn
  have HN := Lib.hid hN
  clear hi hz0 hz1 hz2 hn hN
  obtain ⟨hb1, hb2⟩ := Sha.nblocks_bd n
  obtain ⟨nb, hnb⟩ : ∃ nb, nb = Sha.nblocks n := ⟨_, rfl⟩
  have Hpad := Lib.hid (show Sha.pad bs = bs ++ [128] ++ List.replicate (nb * 64 - n - 9) 0 ++ Sha.len8 n by rw [hnb]; unfold Sha.pad; rw [Hn.out])
  have hdef : nb = (n + 72) / 64 := hnb
  have Hnb := Lib.hid hnb
  rw [← hnb] at hb1 hb2
  clear hnb
  have Hl1 := Lib.hid (show bs.length + 0 = n + 0 by rw [Hn.out])
  have HlA := Lib.hid (show ([] : List Int).length + n < 17592186044415 by simp; omega)
  have HlB := Lib.hid (show (bs : List Int).length < 17592186044415 by rw [Hn.out]; omega)
  go_enter Tryd.func61, Tryd.ntmps61
  go_wp2_with (first
    | (at_builtin; refine wpList_append_rowA rfl (.tmp 6) (.tmp 7) 22 rfl i0 1 Tryd.underlying22 HI.out.1 HI.out.2.1 HI.out.2.2.1 HI.out.2.2.2 (by decide) 0 rfl rfl (OwnN.empty (base := w.heap.size) (Nat.le_refl _)) A n _ bs rfl Hn.out (HN.out.alloc _) HlA.out w.heap.size w (Nat.le_refl _) ((Below.refl _ _).alloc (Nat.le_refl _) _) ?_; intro A1 c1 w1 hO1 hB1)
    | (at_builtin; refine wpList_append_num rfl (.tmp 8) (.tmp 9) 22 rfl i0 1 Tryd.underlying22 HI.out.1 HI.out.2.1 HI.out.2.2.1 HI.out.2.2.2 (by decide) _ (by simp [Hn.out]) rfl (hO1.alloc _) ⟨w1.heap.size, 0, none⟩ _ 128 rfl (by simp) HlB.out w.heap.size w (Nat.le_refl _) (hB1.alloc hB1.size _) ?_; intro A2 c2 w2 hO2 hB2)
    )
  have hO2' : OwnN .u8 5 w.heap.size w2 A2 c2 (bs ++ [128] ++ List.replicate 0 0) := by simpa using hO2
  have Hdef := Lib.hid hdef
  clear hO2 hO1 hB1 hdef
  go_loopw [3] (fun v wr => ∃ (j m : Nat) (A' : Option Addr) (c' : Nat), j ≤ nb * 64 - n - 9 ∧ m = n + 1 + j ∧ v = .slice A' m c' ∧ OwnN .u8 5 w.heap.size wr A' c' (bs ++ [128] ++ List.replicate j 0) ∧ Below w.heap.size w wr) (fun v _ => nb * 64 - 8 - sliceLen v)
  case atStart => exact ⟨0, n + 1, A2, c2, Nat.zero_le _, rfl, rfl, hO2', hB2⟩
  case round =>
    obtain ⟨j, m, A3, c3, hj, hm, rfl, hO, hB⟩ := hrel
    have HO := Lib.hid hO
    have Hlen := Lib.hid (show (bs ++ [128] ++ List.replicate j (0 : Int)).length = m by simp [Hn.out]; omega)
    have HS := Lib.hid (show (bs ++ [128] ++ List.replicate j (0 : Int)).length < 17592186044415 by rw [Hlen.out]; omega)
    have hd := Hdef.out
    by_cases hlt : j < nb * 64 - n - 9
    · have q1 : ((m : Int) % 64 == 56) = false := beq_eq_false_iff_ne.2 (by omega)
      have q2 : ((m : Int) % 64 != 56) = true := bne_iff_ne.2 (by omega)
      have Hm := Lib.hid hm
      clear hO hd hm hO2' hB2
      go_wp2_with (first
        | (at_builtin; refine wpList_append_num rfl (.tmp 15) (.tmp 16) 22 rfl i0 1 Tryd.underlying22 HI.out.1 HI.out.2.1 HI.out.2.2.1 HI.out.2.2.2 (by decide) _ Hlen.out rfl (HO.out.alloc _) ⟨wr.heap.size, 0, none⟩ _ 0 rfl (by simp) HS.out w.heap.size w (Nat.le_refl _) (hB.alloc hB.size _) ?_; intro A4 c4 w4 hO4 hB4)
        )
      go_roundw
      case rel => exact ⟨j + 1, m + 1, A4, c4, by omega, by have := Hm.out; omega, rfl, by rw [← rep_snoc]; exact hO4, hB4⟩
      case measure => have := Hm.out; simp [sliceLen]; omega
    · have q1 : ((m : Int) % 64 == 56) = true := beq_iff_eq.2 (by omega)
      have q2 : ((m : Int) % 64 != 56) = false := bne_eq_false_iff_eq.2 (by omega)
      have hj' : j = nb * 64 - n - 9 := by omega
      have hm' : m = nb * 64 - 8 := by omega
      have Hm := Lib.hid hm'
      have Hpad' := Lib.hid (show Sha.pad bs = bs ++ [128] ++ List.replicate j 0 ++ Sha.len8 n by rw [Hpad.out, hj'])
      have hO' : OwnN .u8 5 w.heap.size wr A3 c3 (bs ++ [128] ++ List.replicate j 0 ++ (Sha.len8 n).take 0) := by simpa using hO
      generalize bs ++ [128] ++ List.replicate j (0 : Int) = pre at Hpad' hO' Hlen
      have b1 : (n : Int) ≤ 1000000 := by omega
      clear hO HO hd hm hj hj' hm' hO2' hB2 HS hlt Hpad
      go_wp2
      go_loopw [3, 5] (fun v i wr => ∃ (k m' : Nat) (z : Int) (A' : Option Addr) (c' : Nat), z = k ∧ k ≤ 8 ∧ i = .int .i64 z ∧ m' = m + k ∧ v = .slice A' m' c' ∧ OwnN .u8 5 w.heap.size wr A' c' (pre ++ (Sha.len8 n).take k) ∧ Below w.heap.size w wr) (fun _ i _ => (8 - intOf i).toNat)
      case atStart => exact ⟨0, m, 0, A3, c3, rfl, by omega, rfl, rfl, rfl, hO', hB⟩
      case round =>
        obtain ⟨k, m', z, A5, c5, hkz, hk8, rfl, hmk, rfl, hO5, hB5⟩ := hrel
        have HO5 := Lib.hid hO5
        have Hl5 := Lib.hid (show (pre ++ (Sha.len8 n).take k).length = m' by rw [List.length_append, Hlen.out, List.length_take, Sha.len_len8]; omega)
        have HS5 := Lib.hid (show (pre ++ (Sha.len8 n).take k).length < 17592186044415 by rw [Hl5.out]; have := Hm.out; omega)
        have Hmk := Lib.hid hmk
        clear hO5 hmk hO' hB q1 q2
        by_cases hlk : k < 8
        · obtain ⟨k', hk'⟩ : ∃ k', k' = k + 1 := ⟨_, rfl⟩
          have hk8' : k' ≤ 8 := by omega
          have Hkz := Lib.hid (show z + 1 = (k' : Int) by omega)
          have HT := Lib.hid (take_snoc8 n k hlk)
          rw [← hk'] at HT
          have Hmk' := Lib.hid (show m' + 1 = m + k' by have := Hmk.out; omega)
          have hcases : (k = 0 ∧ z = 0) ∨ (k = 1 ∧ z = 1) ∨ (k = 2 ∧ z = 2) ∨ (k = 3 ∧ z = 3) ∨ (k = 4 ∧ z = 4) ∨ (k = 5 ∧ z = 5) ∨ (k = 6 ∧ z = 6) ∨ (k = 7 ∧ z = 7) := by omega
          clear hkz hk' hk8 Hmk
          rcases hcases with ⟨rfl, rfl⟩ | ⟨rfl, rfl⟩ | ⟨rfl, rfl⟩ | ⟨rfl, rfl⟩ | ⟨rfl, rfl⟩ | ⟨rfl, rfl⟩ | ⟨rfl, rfl⟩ | ⟨rfl, rfl⟩
          all_goals
            go_wp2_with (first
              | (at_builtin; refine wpList_append_num rfl (.tmp 26) (.tmp 33) 22 rfl i0 1 Tryd.underlying22 HI.out.1 HI.out.2.1 HI.out.2.2.1 HI.out.2.2.2 (by decide) _ Hl5.out rfl (HO5.out.alloc _) ⟨wr.heap.size, 0, none⟩ _ _ rfl (by simp; rfl) HS5.out w.heap.size w (Nat.le_refl _) (hB5.alloc hB5.size _) ?_; intro A6 c6 w6 hO6 hB6)
              )
            go_roundw
            case rel => exact ⟨k', m' + 1, _, A6, c6, Hkz.out, hk8', rfl, Hmk'.out, rfl, by rw [HT.out, ← List.append_assoc]; exact own_eq hO6 (by omega), hB6⟩
            case measure => simp [intOf]
        · have hk9 : k = 8 := by omega
          subst hk9
          have hz9 : z = 8 := by omega
          subst hz9
          have e2 : m' = nb * 64 := by have := Hm.out; have := Hmk.out; omega
          subst e2
          clear hkz hk8 hlk
          go_wp2
          go_ret
          refine ⟨A5, c5, by rw [← Hnb.out]; rfl, ?_, hB5⟩
          rw [Hpad'.out]
          have := HO5.out
          rwa [List.take_of_length_le (by rw [Sha.len_len8]; exact Nat.le_refl _)] at this
end Go.Proofs.YtpglhkjgcahdbaaDoor
/- More of the digest's words. No program in it. -/
namespace Go.Proofs.YtpglhkjgcahdbaaDoor
namespace Sha
theorem word_or (a b c d : Int) : word a b c d = BitVec.ofInt 32 a <<< (24 : Nat) ||| BitVec.ofInt 32 b <<< (16 : Nat) ||| BitVec.ofInt 32 c <<< (8 : Nat) ||| BitVec.ofInt 32 d := by
  unfold word
  simp only [BitVec.shiftLeft_or_distrib, ← BitVec.shiftLeft_add]
theorem shl_u (x : W) (n : Nat) (p : Int) (hp : p = 2 ^ n) : u x * p % (4294967296 : Int) = u (x <<< n) := by
  subst hp
  have := u_shl x n
  rwa [IntKind.wrap_u32] at this
theorem plus_comm (s t : St) : plus s t = plus t s := by simp only [plus, BitVec.add_comm]
end Sha
end Go.Proofs.YtpglhkjgcahdbaaDoor
/- Append of one number as one operation of a region that draws. No program in it. -/
namespace Go.Proofs.YtpglhkjgcahdbaaDoor
open Go.ChangeShapes Go.WideShapes Go.ChangeAt Go.RowKit
section
variable {k : IntKind} {w w' : World} {A : Option Addr} {l : List Int} {E : TypeId} {base c : Nat}
theorem wp_append_num {P : Program} {Q : Exit → Act → World → Prop} {K : Act → World → Prop} {o : Oper} {a : Act} (s x : Operand) (t : TypeId)
    (ho : o.op = .call { callee := .builtin .append, args := #[s, x], argTypes := #[t, t] })
    (i : TypeInfo) (bytes : Nat) (ht : P.underlying t = some (.slice E)) (hi : P.info? E = some i) (hz : i.zero = some (.int k 0)) (hsize : i.size = 1) (hby : i.bytes = bytes) (hb8 : bytes ≤ 8)
    (n : Nat) (hn : l.length = n) (hs : a.eval s = .slice A n c) (hown : OwnN k E base w A c l)
    (ad : Addr) (cc : Nat) (x0 : Int) (hx : a.eval x = .slice (some ad) 1 cc) (hcell : w.cell? ad = some (.int k x0)) (hlen : l.length < 17592186044415)
    (B : Nat) (W0 : World) (hB : B ≤ base) (hbelow : Below B W0 w)
    (h : ∀ A' c' w', OwnN k E base w' A' c' (l ++ [x0]) → Below B W0 w' → K (a.put o.dst (.slice A' (n + 1) c')) w') : o.wp P a w K Q := by
  subst hn
  refine wp_append_own w s x t ho base E i (.int k 0) 1 bytes ht hi hz hsize hby rfl (by decide) _ _ _ hs hown.1 ad 1 cc [.int k x0] hx rfl ?_ ?_ ?_ ?_ hown.2 ?_
  · intro j u hj
    match j, hj with
    | 0, hj =>
      simp at hj; subst hj
      simpa [Addr.add] using hcell
  · intro u hu
    simp at hu; subst hu; rfl
  · unfold maxLen; omega
  · have : (l.length + 1) * bytes ≤ (l.length + 1) * 8 := Nat.mul_le_mul_left _ hb8
    omega
  · intro v' w1 hown' hgrow _
    have hlen1 : (l ++ [x0]).length = l.length + 1 := by simp
    have hsz : w.heap.size ≤ w1.heap.size := hgrow.size
    have hb1 : Below B W0 w1 := hbelow.grown hgrow (by have := hown.2; omega) (fun g hg => by have := (hown.1.lt g hg).1; omega)
    rcases hown'.2 with ⟨_, h0⟩ | ⟨g, cap, cur, hv, h1, h2, h3, h4, h5, h6⟩
    · omega
    · subst hv
      rw [← hlen1] at hown'
      have hfin : OwnN k E base w1 (some ⟨g, 0, none⟩) cap (l ++ [x0]) := ⟨by rw [List.map_append, hlen1]; rw [hlen1] at hown'; exact hown', by have := hown.2; omega⟩
      exact h (some ⟨g, 0, none⟩) cap w1 hfin hb1
theorem step_append_num {P : Program} {ops : Array Oper} {F : Prop} {Q : Exit → Act → World → Prop} {K : Act → World → Prop} {o : Oper} {a : Act} (hgd : o.guard = none) (s x : Operand) (t : TypeId)
    (ho : o.op = .call { callee := .builtin .append, args := #[s, x], argTypes := #[t, t] })
    (i : TypeInfo) (bytes : Nat) (ht : P.underlying t = some (.slice E)) (hi : P.info? E = some i) (hz : i.zero = some (.int k 0)) (hsize : i.size = 1) (hby : i.bytes = bytes) (hb8 : bytes ≤ 8)
    (n : Nat) (hn : l.length = n) (hs : a.eval s = .slice A n c) (hown : OwnN k E base w A c l)
    (ad : Addr) (cc : Nat) (x0 : Int) (hx : a.eval x = .slice (some ad) 1 cc) (hcell : w.cell? ad = some (.int k x0)) (hlen : l.length < 17592186044415)
    (B : Nat) (W0 : World) (hB : B ≤ base) (hbelow : Below B W0 w)
    (h : ∀ A' c' w', OwnN k E base w' A' c' (l ++ [x0]) → Below B W0 w' → K (a.put o.dst (.slice A' (n + 1) c')) w') : if Region.wanted o (yielded ops a.tmps) = true then Oper.wp P o a w K Q else F := by
  have hw : Region.wanted o (yielded ops a.tmps) = true := by simp [Region.wanted, hgd]
  rw [if_pos hw]
  exact wp_append_num s x t ho i bytes ht hi hz hsize hby hb8 n hn hs hown ad cc x0 hx hcell hlen B W0 hB hbelow h
theorem OwnN.at0 (h : OwnN k E base w A c l) (hl : 0 < l.length) : ∃ b, A = some ⟨b, 0, none⟩ := by
  rcases h.1.2 with ⟨_, h0⟩ | ⟨g, cap, cur, hv, _⟩
  · omega
  · injection hv with hA
    exact ⟨g, hA⟩
theorem OwnN.block {b : Nat} (h : OwnN k E base w (some ⟨b, 0, none⟩) c l) : base ≤ b ∧ b < w.heap.size := by
  rcases h.1.2 with ⟨h1, _⟩ | ⟨g, cap, cur, hv, hb, hh, _⟩
  · cases h1
  · injection hv with hA
    injection hA with hA
    injection hA with hA
    subst hA
    refine ⟨hb, ?_⟩
    rcases Nat.lt_or_ge b w.heap.size with h1 | h1
    · exact h1
    · rw [Array.getElem?_eq_none h1] at hh; cases hh
end
end Go.Proofs.YtpglhkjgcahdbaaDoor
