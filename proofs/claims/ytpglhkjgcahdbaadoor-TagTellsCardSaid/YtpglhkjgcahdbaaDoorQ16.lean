/- Texts of this proof, merged: TagRef, Drive, TagSmall. -/
import Derived.Test.YtpglhkjgcahdbaaDoorQ7
import Derived.Test.YtpglhkjgcahdbaaDoorQ13
import Derived.Test.YtpglhkjgcahdbaaDoorQ15
import Derived.Test.YtpglhkjgcahdbaaDoorQ8
import Derived.Deep.RegionHeld3
/- The key of a session, by the document's own. -/
namespace Go.Proofs.YtpglhkjgcahdbaaDoor
open Go.ChangeShapes Go.WideShapes Go.ChangeAt Go.RowKit
theorem own_up7 {w w' : World} {base : Nat} {A : Option Addr} {c : Nat} {l : List Int} {k : IntKind} {E : TypeId} (h : OwnN k E base w A c l) (hb : Below w.heap.size w w') : OwnN k E base w' A c l := by
  refine ⟨⟨h.1.1, ?_⟩, Nat.le_trans h.2 hb.size⟩
  rcases h.1.2 with h1 | ⟨b, cap, cur, hv, hbb, hh, r⟩
  · exact Or.inl h1
  · exact Or.inr ⟨b, cap, cur, hv, hbb, row_kept hh hb (row_lt hh), r⟩
theorem rnum7_any (w : World) (x : Int) (wx : -9223372036854775808 ≤ x ∧ x ≤ 9223372036854775807) :
    Calls Tryd.prog 23 #[.int .i64 x] w fun e w' => ∃ A' c', e = .returned (.slice A' 7 c') ∧ OwnN .u8 5 w.heap.size w' A' c' (lay x 7) ∧ Below w.heap.size w w' := by
  go_enter Tryd.func23, Tryd.ntmps23
  go_wp2_with fail
  refine (ref04.put_any w none 0 0 [] rfl Nums.nil (by decide) x 7 wx 7 rfl).mono ?_
  rintro e w' ⟨A', c', rfl, hO, hB⟩
  have HO := Lib.hid hO
  clear hO
  rw [show (0 + 7 : Nat) = 7 from rfl]
  go_wp2
  go_ret
  exact ⟨A', c', rfl, HO.out, hB⟩
set_option maxRecDepth 100000 in
set_option maxHeartbeats 2000000 in
theorem rkey_any (w : World) (A : Option Addr) (n cap : Nat) (key : List Int) (hn : key.length = n) (hN : Nums .u8 w A key) (hlen : n ≤ 1000) (hwf : ∀ z ∈ key, 0 ≤ z ∧ z < 256)
    (a m : Int) (wa : -9223372036854775808 ≤ a ∧ a ≤ 9223372036854775807) (wm : -9223372036854775808 ≤ m ∧ m ≤ 9223372036854775807) (c : List Int) (hck : tk key a m = c) :
    Calls Tryd.prog 12 #[.slice A n cap, .int .i64 a, .int .i64 m] w fun x w' => x = .returned (.agg (nrow .u8 c).toArray) ∧ Below w.heap.size w w' := by
  have z0 := zero_b32'
  have z1 := zero_b16
  obtain ⟨i0, hi, hz0, hz1, hz2⟩ := info_parts infoB
  have HI := Lib.hid (And.intro hi (And.intro hz0 (And.intro hz1 hz2)))
  clear hi hz0 hz1 hz2
  have HN := Lib.hid hN
  have Hn := Lib.hid hn
  have Hwf := Lib.hid hwf
  have HC := Lib.hid hlen
  obtain ⟨r, hr⟩ : ∃ r, Mac.hmac key (lay a 7 ++ lay m 7) = r := ⟨_, rfl⟩
  have hr32 : r.length = 32 := by rw [← hr]; exact Mac.hmac_len _ _
  have hcr : r.take 16 = c := by rw [← hck, ← hr]; rfl
  have SN := sha_new r hr32
  have LR : (nrow .u8 r).length = 32 := by rw [nrow_len]; exact hr32
  have Hr := Lib.hid hr
  have Hr32 := Lib.hid hr32
  have Hcr := Lib.hid hcr
  have Wa := Lib.hid wa
  have Wm := Lib.hid wm
  have Hmw := Lib.hid (show ∀ z ∈ lay a 7 ++ lay m 7, 0 ≤ z ∧ z < 256 from Mac.app_wf (lay_wf _ _) (lay_wf _ _))
  have Hl7 := Lib.hid (fun x => lay_len x 7)
  have HLa := Lib.hid (show (lay a 7).length + 7 < 17592186044415 by rw [Hl7.out]; decide)
  have Hab := Lib.hid (show (lay a 7 ++ lay m 7).length = 14 by rw [List.length_append, Hl7.out, Hl7.out])
  clear hN hn hwf hlen hr hr32 hcr hck wa wm
  go_enter Tryd.func12, Tryd.ntmps12
  go_wp2_with fail
  have RR := row_new (W := w) (cs := (nrow .u8 z16).toArray) (t := b16T) (m := (0, 0))
  have B0 : Below w.heap.size w (w.alloc (.cells (nrow .u8 z16).toArray b16T)) := (Below.refl _ _).alloc (Nat.le_refl _) _
  generalize w.alloc (.cells (nrow .u8 z16).toArray b16T) = W0 at RR B0 ⊢
  have B0k := Lib.hid B0
  refine (rnum7_any W0 a Wa.out).mono ?_
  rintro x w1 ⟨A1, c1, rfl, hO1, hB1⟩
  have RR := row_kept RR hB1 (row_lt RR)
  have B1 := B0.trans (hB1.mono B0.size)
  have HO1 := Lib.hid hO1
  clear B0 hO1
  go_wp2_with fail
  refine (rnum7_any w1 m Wm.out).mono ?_
  rintro x w2 ⟨A2, c2, rfl, hO2, hB2⟩
  have HO1 := Lib.hid (own_up7 HO1.out hB2)
  have HN2 := Lib.hid hO2.nums
  have u2 := hB1.trans (hB2.mono hB1.size)
  clear hO2 hB2 hB1
  go_wp2_with (first
    | (at_builtin; refine wpList_append_rowA rfl (.tmp 12) (.tmp 14) 22 rfl i0 1 Tryd.underlying22 HI.out.1 HI.out.2.1 HI.out.2.2.1 HI.out.2.2.2 (by decide) 7 (Hl7.out a) rfl HO1.out A2 7 c2 (lay m 7) rfl (Hl7.out m) HN2.out HLa.out W0.heap.size W0 (Nat.le_refl _) u2 ?_; intro A3 c3 w3 hO3 hB3; rw [show (7 + 7 : Nat) = 14 from rfl])
    )
  have RR3 := (hB3.block _ (row_lt (by assumption : W0.heap[w.heap.size]? = some _))).trans (by assumption : W0.heap[w.heap.size]? = some (.cells (nrow .u8 z16).toArray b16T))
  have hB0 : Below w.heap.size w W0 := B0k.out
  have B3 := hB0.trans (hB3.mono hB0.size)
  have N3 := hO3.nums
  refine (mof_any _ A n cap key Hn.out (HN.out.below B3) HC.out Hwf.out A3 14 c3 (lay a 7 ++ lay m 7) r Hab.out N3 (by decide) Hmw.out Hr.out).mono ?_
  rintro x w4 ⟨rfl, hB4⟩
  have RR4 := row_kept RR3 hB4 (row_lt RR3)
  have B4 := B3.trans (hB4.mono B3.size)
  clear hB4 N3 B3 hO3 hB3 HO1 HN2 u2 RR B1 B0k hB0 HI HLa Hab
  go_upto_region 2 with (fail)
  have AN := (Below.refl w4.heap.size w4).alloc (Nat.le_refl _) (.cells (nrow .u8 r).toArray b32T)
  have RG := row_new (W := w4) (cs := (nrow .u8 r).toArray) (t := b32T) (m := (0, 0))
  have RC := row_kept RR4 AN (row_lt RR4)
  have BW := B4.trans (AN.mono B4.size)
  have hne : w.heap.size < w4.heap.size := row_lt RR4
  generalize w4.alloc (.cells (nrow .u8 r).toArray b32T) = wc at RG RC BW ⊢
  obtain ⟨g, hg⟩ : ∃ g, g = w4.heap.size := ⟨_, rfl⟩
  rw [← hg] at RG hne ⊢
  clear AN B4 SN hg RR4 RR3
  have hc16 : c.length = 16 := by rw [← Hcr.out, List.length_take, Hr32.out]; rfl
  have LC : (nrow .u8 c).length = 16 := by rw [nrow_len]; exact hc16
  have Hcg := Lib.hid (show ∀ k : Nat, k < 16 → r.getD k 0 = c.getD k 0 from fun k hk => by
    rw [← Hcr.out]
    simp only [List.getD, List.getElem?_take, hk, if_true])
  have hgl := row_lt RG
  have hwl := row_lt RC
  clear LR HN Hr Hmw hne
  go_upto_region 4 with (fail)
  have AN := (Below.refl wc.heap.size wc).alloc (Nat.le_refl _) (.cells (nrow .u8 z16).toArray b16T)
  have RN := row_new (W := wc) (cs := (nrow .u8 z16).toArray) (t := b16T) (m := (0, 0))
  have RG := row_kept RG AN hgl
  have RC := row_kept RC AN hwl
  have BW := BW.trans (AN.mono BW.size)
  generalize wc.alloc (.cells (nrow .u8 z16).toArray b16T) = V2 at RN RG RC BW ⊢
  obtain ⟨g2, hg2⟩ : ∃ g2, g2 = wc.heap.size := ⟨_, rfl⟩
  rw [← hg2] at RN hgl hwl ⊢
  clear AN hg2
  have HR0 := Lib.hid (And.intro RN (And.intro RG (And.intro RC BW)))
  clear RN RG RC BW
  go_wp2_with fail
  go_loopw [9] (fun i wr => ∃ n : Nat, n ≤ 16 ∧ i = .int .i64 n ∧ wr.heap[g]? = some (.cells (nrow .u8 r).toArray b32T) ∧ wr.heap[w.heap.size]? = some (.cells (nrow .u8 z16).toArray b16T) ∧ wr.heap[g2]? = some (.cells (ncs .u8 (Sha.filled c n 16)) b16T) ∧ Below w.heap.size w wr) (fun i _ => 16 - (intOf i).toNat)
  case atStart => exact ⟨0, by omega, rfl, HR0.out.2.1, HR0.out.2.2.1, HR0.out.1, HR0.out.2.2.2⟩
  case round =>
    obtain ⟨k, hk, rfl, R0, R1, R2, hB⟩ := hrel
    clear HR0
    by_cases hlt : k < 16
    · have q1 : (k : Int) < 16 := by omega
      have q2 : (k : Int) < 32 := by omega
      have q0 : (0 : Int) ≤ (k : Int) := by omega
      have Hset := Lib.hid (Sha.filled_set c k 16 (by rw [hc16]; exact hlt) hlt)
      have Hnset := Lib.hid (ncs_set .u8 (Sha.filled c k 16) k (c.getD k 0))
      have M0 := ncs_at .u8 (Sha.filled c k 16) k (by rw [Sha.len_filled _ _ _ (by omega) (by omega)]; exact hlt)
      have C0 := (row_cells R0 k).trans (ncs_at .u8 r k (by rw [Hr32.out]; omega))
      rw [Hcg.out k hlt] at C0
      generalize (Sha.filled c k 16).getD k 0 = y at M0
      generalize hL : ncs .u8 (Sha.filled c k 16) = L at R2 M0 Hnset
      generalize hx : c.getD k 0 = x at C0 Hset Hnset
      obtain ⟨s0, s1, d0, d1, f0, f1, z1⟩ := rows1 R2
      clear hL hx
      go_wp2
      go_roundw
      case rel =>
        refine ⟨k + 1, by omega, by go_num, (setRow_far (by omega)).trans R0, (setRow_far (by omega)).trans R1, ?_, setRow_below hB (by omega)⟩
        rw [← Hset.out, ← Hnset.out]
        exact row_written R2
      case measure => simp [intOf]; omega
    · obtain rfl : k = 16 := by omega
      rw [show ((16 : Nat) : Int) = 16 from rfl]
      rw [Sha.filled_all _ _ hc16] at R2
      have R2' : wr.heap[g2]? = some (.cells (nrow .u8 c).toArray b16T) := R2
      have HO := Lib.hid (nrow_one .u8 c)
      clear R2 R0
      go_wp2_with (first
        | ((with_reducible refine wpl_arr Tryd.underlying23 info_b16 ?_ (.tmp 8) ?_ g2 (nrow .u8 c) LC ?_ R2' ?_); (rfl); (rfl); (rfl))
        | ((with_reducible refine wpl_arr_store info_b16 ?_ (.tmp 6) (.tmp 26) ?_ w.heap.size (nrow .u8 c) (nrow .u8 z16) LC z16_len HO.out ?_ ?_ R1 ?_); (rfl); (rfl); (rfl); (rfl)))
      exact bodyPost_ret (arr_results Tryd.underlying23 info_b16 Tryd.results12 LC rfl (row_written R1)) rfl ⟨rfl, setRow_below hB (Nat.le_refl _)⟩
end Go.Proofs.YtpglhkjgcahdbaaDoor
/- A region that draws its order, driven by hand: each operation that reads is taken first, under a condition S on the world that holds at each step; what is left comes up alone. No program in it. -/
namespace Go.Proofs.YtpglhkjgcahdbaaDoor
open Go
section
variable {P : Program} {l : List Oper} {Q : Exit → Act → World → Prop} {S : World → Prop}
theorem hd_start {id : Nat} {a : Act} {w : World} (S : World → Prop) (hm : P.follows .mixedOrders = true) (hS : S w.drew)
    (h : S w.drew → wpAnyH P .any l.toArray Q S l.length (Array.replicate l.length false) a w.drew) : (Code.region id l.toArray true).wp P Q a w :=
  wp_region_held_drew (S := S) hm hS (by simpa using h)
theorem hd_take (i : Nat) {oi : Oper} {v : Value} {f : Nat} {ls : Array Bool} {a : Act} {w : World} (hi : l[i]? = some oi)
    (hs : Region.noSelect l.toArray = true) (hf : Region.free .any l.toArray ls i = true) (hr : (Region.ready .any l.toArray ls).contains i = true)
    (hQ : ∀ c a w, Q (.panic c) (a.put oi.dst v) w → Q (.panic c) a w) (hS : S w) (hy : YieldsIf P l.toArray S oi v a)
    (h : wpAnyH P .any l.toArray Q S f (ls.setIfInBounds i true) (a.put oi.dst v) w) : wpAnyH P .any l.toArray Q S (f + 1) ls a w :=
  wpAnyH_take (i := i) (by simpa using hi) hs hf hr hQ hy hS h
/-- A row that is loaded whole. -/
theorem hd_row {oi : Oper} {a : Act} {T : TypeId} {d : TypeDesc} {n : Nat} (hu : P.underlying T = some d) (hd : d.isRow = true) (hi : (P.info? T).map (·.size) = some n) (hw : Region.wanted oi (yielded l.toArray a.tmps) = true) (x : Operand) (ho : oi.op = .load T x)
    (g o : Nat) (hx : a.eval x = .pointer (some ⟨g, o, none⟩)) (cs : List Value) (hc : cs.length = n) (hS : ∀ w, S w → w.rangeAt g o cs) : YieldsIf P l.toArray S oi (.agg cs.toArray) a :=
  yieldsIf_load_mid hw T x ho g o hx cs d hS hu hd (by rw [hi, hc])
/-- What comes up alone. -/
theorem hd_one (i : Nat) {oi : Oper} {f : Nat} {ls : Array Bool} {a : Act} {w : World} (hi : l[i]? = some oi) (hr : Region.ready .any l.toArray ls = [i])
    (h : ∀ K' : Act → World → Prop, Shut (∀ a w, S w → (S w → wpAnyH P .any l.toArray Q S f (ls.setIfInBounds i true) a w) → K' a w) → if Region.wanted oi (yielded l.toArray a.tmps) = true then Oper.wp P oi a w K' Q else K' (a.put oi.dst undef) w) :
    wpAnyH P .any l.toArray Q S (f + 1) ls a w :=
  wpAnyH_ready hr (by simp) (AllReadyH.cons (by simpa using hi) h AllReadyH.nil)
end
end Go.Proofs.YtpglhkjgcahdbaaDoor
/- Layer 7: the small case. -/
namespace Go.Proofs.YtpglhkjgcahdbaaDoor
open Go.ChangeShapes Go.WideShapes Go.ChangeAt Go.RowKit
theorem c16_new (r : List Int) (hr : r.length = 16) (W : World) : (storeCells ⟨W.heap.size, 0, none⟩ (nrow .u8 r) 0).run Tryd.prog (W.alloc (.cells (nrow .u8 z16).toArray b16T)) = .ok () (W.alloc (.cells (nrow .u8 r).toArray b16T)) := by
  have := run_storeCells_new (P := Tryd.prog) W b16T (nrow .u8 z16).toArray (nrow .u8 r).toArray (by rw [info_b16]; simp [nrow_len, hr]) (by simp [nrow_len, hr]) (all_one (nrow_one _ _))
  simpa using this
theorem rng_of {p : Pk} (hp : p.Wf) (h : p.h.all (fun z => decide (-9223372036854775808 ≤ z) && decide (z ≤ 9223372036854775807)) = true) : p.Rng := fun i => by
  rcases Nat.lt_or_ge i p.h.length with hi | hi
  · have := List.all_eq_true.1 h (p.h[i]) (List.getElem_mem hi)
    simp at this
    simpa [List.getD, hi] using this
  · simp [List.getD, List.getElem?_eq_none hi]
def tp5 : Pk := ⟨[5, 3, 1, 0, 0, 0, 0, 0, 0, 0, 0, 0], z16, z8⟩
theorem tp5_wf : tp5.Wf := ⟨rfl, rfl, rfl⟩
theorem tp5_set : (((pcs pk0).set 0 (.int .i64 5)).set 1 (.int .i64 3)).set 2 (.int .i64 1) = pcs tp5 := by rfl
theorem tp5_ok : sgOk tp5 = true := by kernel_rfl
def tp1 : Pk := ⟨[1, 0, 0, 0, 0, 0, 0, 0, 0, 0, 0, 0], z16, z8⟩
theorem tp1_wf : tp1.Wf := ⟨rfl, rfl, rfl⟩
theorem tp1_set : (pcs pk0).set 0 (.int .i64 1) = pcs tp1 := by rfl
theorem tp1_ok : sgOk tp1 = false := by kernel_rfl
def tp50 : Pk := ⟨[5, 3, 0, 0, 0, 0, 0, 0, 0, 0, 0, 0], z16, z8⟩
theorem tp50_wf : tp50.Wf := ⟨rfl, rfl, rfl⟩
theorem tp50_set : ((pcs pk0).set 0 (.int .i64 5)).set 1 (.int .i64 3) = pcs tp50 := by rfl
theorem tp50_ok : sgOk tp50 = false := by kernel_rfl
theorem sgPk_bad {key : List Int} {p : Pk} (h : sgOk p = false) : sgPk key p = pk0 := by unfold sgPk; rw [h]; rfl
theorem sgPk_ok {key : List Int} {p : Pk} (h : sgOk p = true) : sgPk key p = setT p (sgTag key p) := by unfold sgPk; rw [h, if_pos rfl]
theorem setT_t (p : Pk) (t : List Int) : (setT p t).t = t := rfl
theorem setT_h (p : Pk) (t : List Int) : (setT p t).h = p.h := rfl
theorem setT_s (p : Pk) (t : List Int) : (setT p t).s = p.s := rfl
/-- Its tag turned does not change how a packet is signed. -/
theorem sgTag_set (key : List Int) (p : Pk) (t : List Int) : sgTag key (setT p t) = sgTag key p := rfl
theorem sgOk_set (p : Pk) (t : List Int) : sgOk (setT p t) = sgOk p := rfl
theorem pcs_tail {p : Pk} (h : p.Wf) (i : Nat) (hi : i < 8) : (pcs p)[28 + i]? = some (.int .u8 (p.t.getD i 0)) := by
  have := ncs_at .u8 p.t i (by rw [h.t]; exact hi)
  unfold ncs at this
  rw [List.getElem?_toArray] at this
  rw [pcs, ← List.append_assoc, List.getElem?_append_right (by simp [nrow_len, h.h, h.s]), ← this]
  congr 1
  simp [nrow_len, h.h, h.s]
theorem pcs_tset {p : Pk} (h : p.Wf) (i : Nat) (x : Int) : (pcs p).set (28 + i) (.int .u8 x) = pcs (setT p (p.t.set i x)) := by
  rw [pcs, pcs, ← List.append_assoc, List.set_append_right _ _ (by simp [nrow_len, h.h, h.s]), List.append_assoc]
  have e : 28 + i - (nrow .i64 p.h ++ nrow .u8 p.s).length = i := by simp [nrow_len, h.h, h.s]
  rw [e]
  show _ = nrow .i64 p.h ++ (nrow .u8 p.s ++ nrow .u8 (p.t.set i x))
  rw [show (nrow .u8 p.t).set i (.int .u8 x) = nrow .u8 (p.t.set i x) by simp [nrow, List.map_set]]
theorem xor_ne {x : Int} (h0 : 0 ≤ x) (h1 : x < 256) : bits BinOp.xor .u8 x 1 ≠ x := by
  have h : ∀ n : Nat, n < 256 → bits BinOp.xor .u8 (n : Int) 1 ≠ (n : Int) := by decide +kernel
  have := h x.toNat (by omega)
  rwa [Int.toNat_of_nonneg h0] at this
theorem sgTag_wf (key : List Int) (p : Pk) : ∀ z ∈ sgTag key p, 0 ≤ z ∧ z < 256 := fun z hz => by
  unfold sgTag Mac.hmac at hz
  exact Mac.sha_wf _ z (List.mem_of_mem_take hz)
theorem getD_wf {l : List Int} (h : ∀ z ∈ l, 0 ≤ z ∧ z < 256) (i : Nat) : 0 ≤ l.getD i 0 ∧ l.getD i 0 < 256 := by
  unfold List.getD
  cases hi : l[i]? with
  | none => exact ⟨by decide, by decide⟩
  | some v => exact h v (List.mem_of_getElem? hi)
theorem eql_b16 (W : World) (x y : List Int) (hx : x.length = 16) (hy : y.length = 16) : (Op.equalIn 10000 b16T (.agg (nrow .u8 x).toArray) (.agg (nrow .u8 y).toArray)).run Tryd.prog W = .ok (decide (x = y)) W :=
  eql_row 9998 W Tryd.underlying23 x y hx hy
abbrev sO : Obj := .cells #[.int .u8 115] 5 (1, 2)
set_option maxRecDepth 100000 in
set_option maxHeartbeats 2000000 in
theorem small_any (w : World) (ht : Kt w) :
    Calls Tryd.prog 8 #[] w fun e w' => e = .returned (.bool true) ∧ Below w.heap.size w w' := by
  have HT := Lib.hid ht
  have zpk := zero_pk
  have z1 := zero_b16
  have e5 := tp5_set
  have e1 := tp1_set
  have e50 := tp50_set
  have m1 : ∀ w : World, (convert 22 22 (.slice (some ⟨w.heap.size, 0, none⟩) 1 1)).run Tryd.prog (w.alloc (.cells #[.int .u8 115] 5)) = .ok (.slice (some ⟨w.heap.size, 0, none⟩) 1 1) (w.alloc sO) := fun w =>
    mark_new (P := Tryd.prog) Tryd.underlying22 Tryd.underlying5 w #[.int .u8 115] 1 rfl
  have NJ := Lib.hid (fun w : World => nums_new_marked w [115] 5 #[.int .u8 115] w.heap.size (1, 2) rfl rfl)
  have KJ := Lib.hid (fun (w : World) (o : Obj) => (Below.refl w.heap.size w).alloc (Nat.le_refl _) o)
  obtain ⟨K, hK⟩ : ∃ K, tk [115] 3 7 = K := ⟨_, rfl⟩
  have hK16 : K.length = 16 := by rw [← hK]; exact tk_len _ _ _
  have CN := c16_new K hK16
  have LK : (nrow .u8 K).length = 16 := by rw [nrow_len]; exact hK16
  have hKw : ∀ z ∈ K, 0 ≤ z ∧ z < 256 := by
    rw [← hK]; unfold tk Mac.hmac
    exact fun z hz => Mac.sha_wf _ z (List.mem_of_mem_take hz)
  have HKw := Lib.hid hKw
  have HK16 := Lib.hid hK16
  have HK := Lib.hid hK
  obtain ⟨q, hq⟩ : ∃ q, sgPk K tp5 = q := ⟨_, rfl⟩
  have hqw : q.Wf := by rw [← hq]; exact sgPk_wf K tp5_wf
  have HQ := Lib.hid hqw
  have pkq := fun W => pk_new hqw W
  have pk0n := fun W => pk_new pk0_wf W
  have Lq := pcs_len hqw
  have L0 : (pcs pk0).length = 36 := pcs_len pk0_wf
  have S5 := Lib.hid (fun W ht => sign_any W K hK16 hKw tp5 tp5_wf (rng_of tp5_wf (by decide)) (by decide) ht q hq true tp5_ok)
  have S1 := Lib.hid (fun W ht => sign_any W K hK16 hKw tp1 tp1_wf (rng_of tp1_wf (by decide)) (by decide) ht pk0 (sgPk_bad tp1_ok) false tp1_ok)
  have S50 := Lib.hid (fun W ht => sign_any W K hK16 hKw tp50 tp50_wf (rng_of tp50_wf (by decide)) (by decide) ht pk0 (sgPk_bad tp50_ok) false tp50_ok)
  have Hq := Lib.hid hq
  clear ht hK hK16 hKw hqw hq
  go_enter Tryd.func8, Tryd.ntmps8
  go_wp2_with fail
  have B1 := KJ.out w sO
  refine (key_any _ _ 1 1 [115] rfl (NJ.out w) (Nat.le_refl 1) (by decide) (by decide) (by decide) 3 7 (by decide) (by decide) K HK.out (HT.out.keep B1 HT.out.2)).mono ?_
  rintro x w1 ⟨rfl, hB⟩
  have B2 := B1.trans (hB.mono B1.size)
  clear hB B1
  go_upto_region 2 with (fail)
  have AN := KJ.out w1 (.cells (nrow .u8 K).toArray b16T)
  have RK := row_new (W := w1) (cs := (nrow .u8 K).toArray) (t := b16T) (m := (0, 0))
  have B3 := B2.trans (AN.mono B2.size)
  generalize w1.alloc (.cells (nrow .u8 K).toArray b16T) = V1 at RK B3 ⊢
  obtain ⟨gk, hgk⟩ : ∃ g, g = w1.heap.size := ⟨_, rfl⟩
  rw [← hgk] at RK ⊢
  clear AN B2 hgk CN
  go_wp2_with (first
    | ((with_reducible refine wpl_arr Tryd.underlying23 info_b16 ?_ (.tmp 1) ?_ gk (nrow .u8 K) LK ?_ RK ?_); (rfl); (rfl); (rfl)))
  refine (S5.out _ (HT.out.keep B3 HT.out.2)).mono ?_
  rintro x w2 ⟨rfl, hB⟩
  have RK := row_kept RK hB (row_lt RK)
  have B4 := B3.trans (hB.mono B3.size)
  clear hB B3
  go_upto_region 3 with (fail)
  have AN := KJ.out w2 (.cells (pcs q).toArray pkT)
  have RQ := row_new (W := w2) (cs := (pcs q).toArray) (t := pkT) (m := (0, 0))
  have RK := row_kept RK AN (row_lt RK)
  have B5 := B4.trans (AN.mono B4.size)
  generalize w2.alloc (.cells (pcs q).toArray pkT) = V2 at RK RQ B5 ⊢
  obtain ⟨gq, hgq⟩ : ∃ g, g = w2.heap.size := ⟨_, rfl⟩
  rw [← hgq] at RQ ⊢
  clear AN B4 hgq S5
  go_wp2_with (first
    | ((with_reducible refine wpl_arr Tryd.underlying23 info_b16 ?_ (.tmp 1) ?_ gk (nrow .u8 K) LK ?_ RK ?_); (rfl); (rfl); (rfl)))
  refine (S1.out _ (HT.out.keep B5 HT.out.2)).mono ?_
  rintro x w3 ⟨rfl, hB⟩
  have RK := row_kept RK hB (row_lt RK)
  have RQ := row_kept RQ hB (row_lt RQ)
  have B6 := B5.trans (hB.mono B5.size)
  clear hB B5
  go_upto_region 4 with (fail)
  have AN := KJ.out w3 (.cells (pcs pk0).toArray pkT)
  have RK := row_kept RK AN (row_lt RK)
  have RQ := row_kept RQ AN (row_lt RQ)
  have B7 := B6.trans (AN.mono B6.size)
  generalize w3.alloc (.cells (pcs pk0).toArray pkT) = V3 at RK RQ B7 ⊢
  clear AN B6 S1
  go_wp2_with (first
    | ((with_reducible refine wpl_arr Tryd.underlying23 info_b16 ?_ (.tmp 1) ?_ gk (nrow .u8 K) LK ?_ RK ?_); (rfl); (rfl); (rfl)))
  refine (S50.out _ (HT.out.keep B7 HT.out.2)).mono ?_
  rintro x w4 ⟨rfl, hB⟩
  have RK := row_kept RK hB (row_lt RK)
  have RQ := row_kept RQ hB (row_lt RQ)
  have B8 := B7.trans (hB.mono B7.size)
  clear hB B7
  go_upto_region 5 with (fail)
  have AN := KJ.out w4 (.cells (pcs pk0).toArray pkT)
  have RK := row_kept RK AN (row_lt RK)
  have RQ := row_kept RQ AN (row_lt RQ)
  have B9 := B8.trans (AN.mono B8.size)
  generalize w4.alloc (.cells (pcs pk0).toArray pkT) = V4 at RK RQ B9 ⊢
  clear AN B8 S50
  go_upto_region 6 with (first
    | ((refine wpl_pk ?_ (.tmp 2) ?_ gq q HQ.out ?_ RQ ?_); (rfl); (rfl); (rfl)))
  have AN := KJ.out V4 (.cells (pcs q).toArray pkT)
  have RQ2 := row_new (W := V4) (cs := (pcs q).toArray) (t := pkT) (m := (0, 0))
  have RK := row_kept RK AN (row_lt RK)
  have RQ := row_kept RQ AN (row_lt RQ)
  have B10 := B9.trans (AN.mono B9.size)
  generalize V4.alloc (.cells (pcs q).toArray pkT) = V5 at RK RQ RQ2 B10 ⊢
  have HG8 := Lib.hid (show gq ≠ V4.heap.size from Nat.ne_of_lt (row_lt (by assumption)))
  have HG9 := Lib.hid B9.size
  obtain ⟨g8, hg8⟩ : ∃ g, g = V4.heap.size := ⟨_, rfl⟩
  rw [← hg8] at RQ2 HG8 HG9 ⊢
  clear AN B9 hg8
  have hx := pcs_tail HQ.out 7 (by decide)
  have hset := Lib.hid (fun y => pcs_tset HQ.out 7 y)
  obtain ⟨x, hx7⟩ : ∃ x, q.t.getD 7 0 = x := ⟨_, rfl⟩
  rw [hx7] at hx
  have M35 : (pcs q).toArray[35]? = some (.int .u8 x) := by rw [List.getElem?_toArray]; exact hx
  have Hx := Lib.hid hx7
  clear hx hx7
  obtain ⟨L, hL⟩ : ∃ L, (pcs q).toArray = L := ⟨_, rfl⟩
  have HL := Lib.hid hL
  rw [hL] at RQ2 M35
  clear hL
  obtain ⟨s0, s1, d0, d1, f0, f1, zz1⟩ := rows1 RQ2
  go_upto_region 7 with (fail)
  obtain ⟨y, hy⟩ : ∃ y, bits BinOp.xor .u8 x 1 = y := ⟨_, rfl⟩
  rw [hy]
  have hqt : q.t = sgTag K tp5 := by rw [← Hq.out, sgPk_ok tp5_ok, setT_t]
  have hxr : 0 ≤ x ∧ x < 256 := by
    rw [← Hx.out, hqt]
    exact getD_wf (sgTag_wf K tp5) 7
  have hyx : y ≠ x := by rw [← hy]; exact xor_ne hxr.1 hxr.2
  have hRow : setRow V5 g8 pkT (L.setIfInBounds 35 (.int .u8 y)) = setRow V5 g8 pkT (pcs (setT q (q.t.set 7 y))).toArray := by
    rw [← HL.out, List.setIfInBounds_toArray, hset.out]
  rw [hRow]
  obtain ⟨q', hq'⟩ : ∃ q', setT q (q.t.set 7 y) = q' := ⟨_, rfl⟩
  rw [hq']
  have hq'w : q'.Wf := by rw [← hq']; exact setT_wf HQ.out (by rw [List.length_set]; exact HQ.out.t)
  have Lq' := pcs_len hq'w
  have g1 : gdB K q = true := by
    unfold gdB
    rw [← Hq.out, sgPk_ok tp5_ok, sgOk_set, tp5_ok, sgTag_set, setT_t, Bool.true_and]
    generalize sgTag K tp5 = T
    exact decide_eq_true rfl
  have g2 : gdB K q' = false := by
    rw [← hq']
    unfold gdB
    rw [sgTag_set, ← Hq.out, sgPk_ok tp5_ok, sgTag_set, ← hqt, Bool.and_eq_false_iff]
    right
    refine decide_eq_false fun he => hyx ?_
    have h7 := congrArg (fun l => List.getD l 7 0) he
    rw [← Hx.out]
    rw [show (setT (setT tp5 q.t) ((setT tp5 q.t).t.set 7 y)).t = q.t.set 7 y from rfl] at h7
    rw [h7]
    have h8 : 7 < (q.t.set 7 y).length := by rw [List.length_set, HQ.out.t]; decide
    simp [List.getD, HQ.out.t]
  have hrq : ∀ p : Pk, p.h = tp5.h → p.Rng := fun p hp i => by rw [hp]; exact rng_of tp5_wf (by decide) i
  have hqh : q.h = tp5.h := by rw [← Hq.out, sgPk_ok tp5_ok, setT_h]
  have hqs : q.s = tp5.s := by rw [← Hq.out, sgPk_ok tp5_ok, setT_s]
  have RK := (setRow_far (w := V5) (g := g8) (t := pkT) (cs := (pcs q').toArray) (show gk ≠ g8 from fun he => by
    rw [he, RQ2] at RK; injection RK with RK; injection RK with _ e; cases e)).trans RK
  have hg8 : gq ≠ g8 := HG8.out
  have RQ := (setRow_far (w := V5) (g := g8) (t := pkT) (cs := (pcs q').toArray) hg8).trans RQ
  have B11 := setRow_below (g := g8) (t := pkT) (cs := (pcs q').toArray) B10 HG9.out
  have RQ2 := row_written (t := pkT) (ds := (pcs q').toArray) RQ2
  generalize setRow V5 g8 pkT (pcs q').toArray = V at RK RQ RQ2 B11 ⊢
  have KD := Lib.hid (show Below V.heap.size V V.drew from below_drewN (Below.refl _ _) 1)
  have KA := Lib.hid (show ∀ (W : World) (o : Obj), Below V.heap.size V W → Below V.heap.size V (W.alloc o) from fun W o h => h.alloc h.size o)
  have KC := Lib.hid (show ∀ (W W' : World), Below V.heap.size V W → Below W.heap.size W W' → Below V.heap.size V W' from fun W W' h hb => h.trans (hb.mono h.size))
  have HRK := Lib.hid (show ∀ W : World, Below V.heap.size V W → W.rangeAt gk 0 (nrow .u8 K) from fun W h => range_row (row_kept RK h (row_lt RK)))
  have HRQ := Lib.hid (show ∀ W : World, Below V.heap.size V W → W.rangeAt gq 0 (pcs q) from fun W h => range_row (row_kept RQ h (row_lt RQ)))
  have HRQ2 := Lib.hid (show ∀ W : World, Below V.heap.size V W → W.rangeAt g8 0 (pcs q') from fun W h => range_row (row_kept RQ2 h (row_lt RQ2)))
  have HC2 := Lib.hid (show ∀ W : World, Below V.heap.size V W → W.cell? ⟨gq, 2, none⟩ = some (.int .i64 1) from fun W h => by
    rw [pk_cell (row_kept RQ h (row_lt RQ)) HQ.out 2 (by decide), hqh]; rfl)
  have HB := Lib.hid (show ∀ W : World, Below V.heap.size V W → Below w.heap.size w W from fun W h => B11.trans (h.mono B11.size))
  have KT := Lib.hid (show ∀ W : World, Below V.heap.size V W → Kt W from fun W h => HT.out.keep (HB.out W h) HT.out.2)
  have KR := Lib.hid (show ∀ W : World, Below V.heap.size V W → Calls Tryd.prog 12 #[.slice (some ⟨W.heap.size, 0, none⟩) 1 1, .int .i64 3, .int .i64 7] (W.alloc sO) fun x w' => x = .returned (.agg (nrow .u8 K).toArray) ∧ Below (W.alloc sO).heap.size (W.alloc sO) w' from fun W h =>
    rkey_any (W.alloc sO) _ 1 1 [115] rfl (NJ.out W) (by decide) (by decide) 3 7 (by decide) (by decide) K HK.out)
  have G1 := Lib.hid (show ∀ W : World, Below V.heap.size V W → Calls Tryd.prog 13 #[.agg (nrow .u8 K).toArray, .agg (pcs q).toArray] W fun e w' => e = .returned (.bool true) ∧ Below W.heap.size W w' from fun W h =>
    good_any W K HK16.out HKw.out q HQ.out (hrq q hqh) (by rw [hqs]; decide) (KT.out W h) true g1)
  have G2 := Lib.hid (show ∀ W : World, Below V.heap.size V W → Calls Tryd.prog 13 #[.agg (nrow .u8 K).toArray, .agg (pcs q').toArray] W fun e w' => e = .returned (.bool false) ∧ Below W.heap.size W w' from fun W h =>
    good_any W K HK16.out HKw.out q' hq'w (hrq q' (by rw [← hq']; exact hqh)) (by rw [← hq']; show ∀ z ∈ q.s, _; rw [hqs]; decide) (KT.out W h) false g2)
  have G3 := Lib.hid (show ∀ W : World, Below V.heap.size V W → Calls Tryd.prog 13 #[.agg (nrow .u8 K).toArray, .agg (pcs tp1).toArray] W fun e w' => e = .returned (.bool false) ∧ Below W.heap.size W w' from fun W h =>
    good_any W K HK16.out HKw.out tp1 tp1_wf (rng_of tp1_wf (by decide)) (by decide) (KT.out W h) false (by unfold gdB; rw [tp1_ok]; rfl))
  have EQ := fun W => eql_b16 W K K HK16.out HK16.out
  rw [decide_eq_true rfl] at EQ
  have m1d : ∀ w : World, (convert 22 22 (.slice (some ⟨w.heap.size, 0, none⟩) 1 1)).run Tryd.prog (w.alloc (.cells #[.int .u8 115] 5)).drew = .ok (.slice (some ⟨w.heap.size, 0, none⟩) 1 1) (w.alloc sO).drew := fun w => m1 w.drew
  clear RK RQ RQ2 B11 B10 s0 s1 d0 d1 f0 f1 zz1 hRow hq' hq'w g1 g2 hrq hqh hqs hg8 hy hyx hxr hqt M35
  -- REGION7
  refine hd_start (fun W => Below V.heap.size V W) (by kernel_rfl) (KD.out) (fun hHeld => ?_)
  refine hd_take 0 rfl (by kernel_rfl) (by kernel_rfl) (by kernel_rfl) (fun _ _ _ h => h) hHeld (hd_row Tryd.underlying23 rfl info_b16 (by rfl) (.tmp 1) rfl gk 0 rfl (nrow .u8 K) LK HRK.out) ?_
  (try simp only [Act.put, List.setIfInBounds_toArray, List.set_cons_zero, List.set_cons_succ])
  have hHeldOld := hHeld
  refine hd_one 1 rfl (by kernel_rfl) (fun K' hK => ?_)
  go_simp
  refine hK.out _ _ (KA.out _ _ hHeld) (fun hHeld => ?_)
  clear hK K'
  (try simp only [Act.put, List.setIfInBounds_toArray, List.set_cons_zero, List.set_cons_succ])
  have hHeldOld := hHeld
  refine hd_one 2 rfl (by kernel_rfl) (fun K' hK => ?_)
  go_simp
  refine hK.out _ _ (KA.out _ _ KD.out) (fun hHeld => ?_)
  clear hK K'
  (try simp only [Act.put, List.setIfInBounds_toArray, List.set_cons_zero, List.set_cons_succ])
  have hHeldOld := hHeld
  refine hd_one 3 rfl (by kernel_rfl) (fun K' hK => ?_)
  go_simp
  refine (KR.out V.drew KD.out).mono ?_
  rintro x W9 ⟨rfl, hb⟩
  go_wp2_with fail
  refine hK.out _ _ (KC.out _ _ (KA.out _ _ KD.out) hb) (fun hHeld => ?_)
  clear hK K'
  (try simp only [Act.put, List.setIfInBounds_toArray, List.set_cons_zero, List.set_cons_succ])
  refine hd_take (v := ?_) 4 rfl (by kernel_rfl) (by kernel_rfl) (by kernel_rfl) (fun _ _ _ h => h) hHeld (Or.inl ⟨by rfl, ?_⟩) ?_
  rotate_left
  · (intro W hSw; go_simp) <;> with_reducible rfl
  (try simp only [Act.put, List.setIfInBounds_toArray, List.set_cons_zero, List.set_cons_succ])
  refine hd_take (v := ?_) 5 rfl (by kernel_rfl) (by kernel_rfl) (by kernel_rfl) (fun _ _ _ h => h) hHeld (Or.inl ⟨by rfl, ?_⟩) ?_
  rotate_left
  · (intro W hSw; go_simp) <;> with_reducible rfl
  (try simp only [Act.put, List.setIfInBounds_toArray, List.set_cons_zero, List.set_cons_succ])
  refine hd_take (v := ?_) 6 rfl (by kernel_rfl) (by kernel_rfl) (by kernel_rfl) (fun _ _ _ h => h) hHeld (Or.inl ⟨by rfl, ?_⟩) ?_
  rotate_left
  · (intro W hSw; go_simp) <;> with_reducible rfl
  (try simp only [Act.put, List.setIfInBounds_toArray, List.set_cons_zero, List.set_cons_succ])
  refine hd_take (v := ?_) 7 rfl (by kernel_rfl) (by kernel_rfl) (by kernel_rfl) (fun _ _ _ h => h) hHeld (Or.inl ⟨by rfl, ?_⟩) ?_
  rotate_left
  · (intro W hSw; go_simp) <;> with_reducible rfl
  (try simp only [Act.put, List.setIfInBounds_toArray, List.set_cons_zero, List.set_cons_succ])
  refine hd_take (v := ?_) 8 rfl (by kernel_rfl) (by kernel_rfl) (by kernel_rfl) (fun _ _ _ h => h) hHeld (Or.inl ⟨by rfl, ?_⟩) ?_
  rotate_left
  · (intro W hSw; go_simp) <;> with_reducible rfl
  (try simp only [Act.put, List.setIfInBounds_toArray, List.set_cons_zero, List.set_cons_succ])
  refine hd_take (v := ?_) 9 rfl (by kernel_rfl) (by kernel_rfl) (by kernel_rfl) (fun _ _ _ h => h) hHeld (Or.inl ⟨by rfl, ?_⟩) ?_
  rotate_left
  · (intro W hSw; go_simp) <;> with_reducible rfl
  (try simp only [Act.put, List.setIfInBounds_toArray, List.set_cons_zero, List.set_cons_succ])
  refine hd_take (v := ?_) 10 rfl (by kernel_rfl) (by kernel_rfl) (by kernel_rfl) (fun _ _ _ h => h) hHeld (Or.inl ⟨by rfl, ?_⟩) ?_
  rotate_left
  · (intro W hSw; go_simp) <;> with_reducible rfl
  (try simp only [Act.put, List.setIfInBounds_toArray, List.set_cons_zero, List.set_cons_succ])
  refine hd_take (v := ?_) 11 rfl (by kernel_rfl) (by kernel_rfl) (by kernel_rfl) (fun _ _ _ h => h) hHeld (Or.inl ⟨by rfl, ?_⟩) ?_
  rotate_left
  · (intro W hSw; go_simp) <;> with_reducible rfl
  (try simp only [Act.put, List.setIfInBounds_toArray, List.set_cons_zero, List.set_cons_succ])
  refine hd_take (v := ?_) 12 rfl (by kernel_rfl) (by kernel_rfl) (by kernel_rfl) (fun _ _ _ h => h) hHeld (Or.inl ⟨by rfl, ?_⟩) ?_
  rotate_left
  · (intro W hSw; go_simp) <;> with_reducible rfl
  (try simp only [Act.put, List.setIfInBounds_toArray, List.set_cons_zero, List.set_cons_succ])
  refine hd_take (v := ?_) 13 rfl (by kernel_rfl) (by kernel_rfl) (by kernel_rfl) (fun _ _ _ h => h) hHeld (Or.inl ⟨by rfl, ?_⟩) ?_
  rotate_left
  · (intro W hSw; go_simp) <;> with_reducible rfl
  (try simp only [Act.put, List.setIfInBounds_toArray, List.set_cons_zero, List.set_cons_succ])
  refine hd_take (v := ?_) 14 rfl (by kernel_rfl) (by kernel_rfl) (by kernel_rfl) (fun _ _ _ h => h) hHeld (Or.inl ⟨by rfl, ?_⟩) ?_
  rotate_left
  · (intro W hSw; go_simp) <;> with_reducible rfl
  (try simp only [Act.put, List.setIfInBounds_toArray, List.set_cons_zero, List.set_cons_succ])
  refine hd_take (v := ?_) 15 rfl (by kernel_rfl) (by kernel_rfl) (by kernel_rfl) (fun _ _ _ h => h) hHeld (Or.inl ⟨by rfl, ?_⟩) ?_
  rotate_left
  · (intro W hSw; go_simp) <;> with_reducible rfl
  (try simp only [Act.put, List.setIfInBounds_toArray, List.set_cons_zero, List.set_cons_succ])
  refine hd_take (v := ?_) 16 rfl (by kernel_rfl) (by kernel_rfl) (by kernel_rfl) (fun _ _ _ h => h) hHeld (Or.inl ⟨by rfl, ?_⟩) ?_
  rotate_left
  · (intro W hSw; go_simp) <;> with_reducible rfl
  (try simp only [Act.put, List.setIfInBounds_toArray, List.set_cons_zero, List.set_cons_succ])
  refine hd_take (v := ?_) 17 rfl (by kernel_rfl) (by kernel_rfl) (by kernel_rfl) (fun _ _ _ h => h) hHeld (Or.inl ⟨by rfl, ?_⟩) ?_
  rotate_left
  · (intro W hSw; go_simp) <;> with_reducible rfl
  (try simp only [Act.put, List.setIfInBounds_toArray, List.set_cons_zero, List.set_cons_succ])
  refine hd_take (v := ?_) 18 rfl (by kernel_rfl) (by kernel_rfl) (by kernel_rfl) (fun _ _ _ h => h) hHeld (Or.inl ⟨by rfl, ?_⟩) ?_
  rotate_left
  · (intro W hSw; have c2 := HC2.out W hSw; go_simp) <;> with_reducible rfl
  (try simp only [Act.put, List.setIfInBounds_toArray, List.set_cons_zero, List.set_cons_succ])
  refine hd_take (v := ?_) 19 rfl (by kernel_rfl) (by kernel_rfl) (by kernel_rfl) (fun _ _ _ h => h) hHeld (Or.inl ⟨by rfl, ?_⟩) ?_
  rotate_left
  · (intro W hSw; go_simp) <;> with_reducible rfl
  (try simp only [Act.put, List.setIfInBounds_toArray, List.set_cons_zero, List.set_cons_succ])
  refine hd_take (v := ?_) 20 rfl (by kernel_rfl) (by kernel_rfl) (by kernel_rfl) (fun _ _ _ h => h) hHeld (Or.inl ⟨by rfl, ?_⟩) ?_
  rotate_left
  · (intro W hSw; go_simp) <;> with_reducible rfl
  (try simp only [Act.put, List.setIfInBounds_toArray, List.set_cons_zero, List.set_cons_succ])
  refine hd_take (v := ?_) 21 rfl (by kernel_rfl) (by kernel_rfl) (by kernel_rfl) (fun _ _ _ h => h) hHeld (Or.inl ⟨by rfl, ?_⟩) ?_
  rotate_left
  · (intro W hSw; go_simp) <;> with_reducible rfl
  (try simp only [Act.put, List.setIfInBounds_toArray, List.set_cons_zero, List.set_cons_succ])
  refine hd_take 22 rfl (by kernel_rfl) (by kernel_rfl) (by kernel_rfl) (fun _ _ _ h => h) hHeld (hd_row Tryd.underlying23 rfl info_b16 (by rfl) (.tmp 1) rfl gk 0 rfl (nrow .u8 K) LK HRK.out) ?_
  (try simp only [Act.put, List.setIfInBounds_toArray, List.set_cons_zero, List.set_cons_succ])
  refine hd_take 23 rfl (by kernel_rfl) (by kernel_rfl) (by kernel_rfl) (fun _ _ _ h => h) hHeld (hd_row Tryd.underlying26 rfl info_pk (by rfl) (.tmp 2) rfl gq 0 rfl (pcs q) Lq HRQ.out) ?_
  (try simp only [Act.put, List.setIfInBounds_toArray, List.set_cons_zero, List.set_cons_succ])
  have hHeldOld := hHeld
  refine hd_one 24 rfl (by kernel_rfl) (fun K' hK => ?_)
  go_simp
  with_reducible refine (G1.out _ hHeldOld).mono ?_
  rintro x W10 ⟨rfl, hb⟩
  go_wp2_with fail
  refine hK.out _ _ (KC.out _ _ hHeldOld hb) (fun hHeld => ?_)
  clear hK K'
  (try simp only [Act.put, List.setIfInBounds_toArray, List.set_cons_zero, List.set_cons_succ])
  refine hd_take (v := ?_) 25 rfl (by kernel_rfl) (by kernel_rfl) (by kernel_rfl) (fun _ _ _ h => h) hHeld (Or.inl ⟨by rfl, ?_⟩) ?_
  rotate_left
  · (intro W hSw; go_simp) <;> with_reducible rfl
  (try simp only [Act.put, List.setIfInBounds_toArray, List.set_cons_zero, List.set_cons_succ])
  refine hd_take (v := ?_) 26 rfl (by kernel_rfl) (by kernel_rfl) (by kernel_rfl) (fun _ _ _ h => h) hHeld (Or.inl ⟨by rfl, ?_⟩) ?_
  rotate_left
  · (intro W hSw; go_simp) <;> with_reducible rfl
  (try simp only [Act.put, List.setIfInBounds_toArray, List.set_cons_zero, List.set_cons_succ])
  refine hd_take 27 rfl (by kernel_rfl) (by kernel_rfl) (by kernel_rfl) (fun _ _ _ h => h) hHeld (hd_row Tryd.underlying23 rfl info_b16 (by rfl) (.tmp 1) rfl gk 0 rfl (nrow .u8 K) LK HRK.out) ?_
  (try simp only [Act.put, List.setIfInBounds_toArray, List.set_cons_zero, List.set_cons_succ])
  refine hd_take 28 rfl (by kernel_rfl) (by kernel_rfl) (by kernel_rfl) (fun _ _ _ h => h) hHeld (hd_row Tryd.underlying26 rfl info_pk (by rfl) (.tmp 8) rfl g8 0 rfl (pcs q') Lq' HRQ2.out) ?_
  (try simp only [Act.put, List.setIfInBounds_toArray, List.set_cons_zero, List.set_cons_succ])
  have hHeldOld := hHeld
  refine hd_one 29 rfl (by kernel_rfl) (fun K' hK => ?_)
  go_simp
  with_reducible refine (G2.out _ hHeldOld).mono ?_
  rintro x W11 ⟨rfl, hb⟩
  go_wp2_with fail
  refine hK.out _ _ (KC.out _ _ hHeldOld hb) (fun hHeld => ?_)
  clear hK K'
  (try simp only [Act.put, List.setIfInBounds_toArray, List.set_cons_zero, List.set_cons_succ])
  refine hd_take (v := ?_) 30 rfl (by kernel_rfl) (by kernel_rfl) (by kernel_rfl) (fun _ _ _ h => h) hHeld (Or.inl ⟨by rfl, ?_⟩) ?_
  rotate_left
  · (intro W hSw; go_simp) <;> with_reducible rfl
  (try simp only [Act.put, List.setIfInBounds_toArray, List.set_cons_zero, List.set_cons_succ])
  refine hd_take (v := ?_) 31 rfl (by kernel_rfl) (by kernel_rfl) (by kernel_rfl) (fun _ _ _ h => h) hHeld (Or.inl ⟨by rfl, ?_⟩) ?_
  rotate_left
  · (intro W hSw; go_simp) <;> with_reducible rfl
  (try simp only [Act.put, List.setIfInBounds_toArray, List.set_cons_zero, List.set_cons_succ])
  refine hd_take (v := ?_) 32 rfl (by kernel_rfl) (by kernel_rfl) (by kernel_rfl) (fun _ _ _ h => h) hHeld (Or.inl ⟨by rfl, ?_⟩) ?_
  rotate_left
  · (intro W hSw; go_simp) <;> with_reducible rfl
  (try simp only [Act.put, List.setIfInBounds_toArray, List.set_cons_zero, List.set_cons_succ])
  refine hd_take 33 rfl (by kernel_rfl) (by kernel_rfl) (by kernel_rfl) (fun _ _ _ h => h) hHeld (hd_row Tryd.underlying23 rfl info_b16 (by rfl) (.tmp 1) rfl gk 0 rfl (nrow .u8 K) LK HRK.out) ?_
  (try simp only [Act.put, List.setIfInBounds_toArray, List.set_cons_zero, List.set_cons_succ])
  refine hd_take (v := ?_) 34 rfl (by kernel_rfl) (by kernel_rfl) (by kernel_rfl) (fun _ _ _ h => h) hHeld (Or.inl ⟨by rfl, ?_⟩) ?_
  rotate_left
  · (intro W hSw; go_simp) <;> with_reducible rfl
  (try simp only [Act.put, List.setIfInBounds_toArray, List.set_cons_zero, List.set_cons_succ])
  have hHeldOld := hHeld
  refine hd_one 35 rfl (by kernel_rfl) (fun K' hK => ?_)
  go_simp
  with_reducible refine (G3.out _ hHeldOld).mono ?_
  rintro x W12 ⟨rfl, hb⟩
  go_wp2_with fail
  refine hK.out _ _ (KC.out _ _ hHeldOld hb) (fun hHeld => ?_)
  clear hK K'
  (try simp only [Act.put, List.setIfInBounds_toArray, List.set_cons_zero, List.set_cons_succ])
  refine hd_take (v := ?_) 36 rfl (by kernel_rfl) (by kernel_rfl) (by kernel_rfl) (fun _ _ _ h => h) hHeld (Or.inl ⟨by rfl, ?_⟩) ?_
  rotate_left
  · (intro W hSw; go_simp) <;> with_reducible rfl
  (try simp only [Act.put, List.setIfInBounds_toArray, List.set_cons_zero, List.set_cons_succ])
  refine hd_take (v := ?_) 37 rfl (by kernel_rfl) (by kernel_rfl) (by kernel_rfl) (fun _ _ _ h => h) hHeld (Or.inl ⟨by rfl, ?_⟩) ?_
  rotate_left
  · (intro W hSw; go_simp) <;> with_reducible rfl
  (try simp only [Act.put, List.setIfInBounds_toArray, List.set_cons_zero, List.set_cons_succ])
  refine hd_take (v := ?_) 38 rfl (by kernel_rfl) (by kernel_rfl) (by kernel_rfl) (fun _ _ _ h => h) hHeld (Or.inl ⟨by rfl, ?_⟩) ?_
  rotate_left
  · (intro W hSw; go_simp) <;> with_reducible rfl
  (try simp only [Act.put, List.setIfInBounds_toArray, List.set_cons_zero, List.set_cons_succ])
  refine wpAnyH_done (by kernel_rfl) ?_ _
  have B11 := HB.out _ hHeld
  clear hHeld
  go_wp2
  go_ret
  exact ⟨rfl, B11⟩
end Go.Proofs.YtpglhkjgcahdbaaDoor
