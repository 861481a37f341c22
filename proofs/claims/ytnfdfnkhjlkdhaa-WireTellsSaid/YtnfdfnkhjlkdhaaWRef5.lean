/- The document's own packets: the packet of bytes. -/
import Derived.Test.YtnfdfnkhjlkdhaaWRef4
import Derived.Test.YtnfdfnkhjlkdhaaWire9
import Derived.Test.YtnfdfnkhjlkdhaaReadRef
import Derived.Test.YtnfdfnkhjlkdhaaDrive
namespace Go.Proofs.Ytnfdfnkhjlkdhaa
open Go.ChangeShapes Go.WideShapes Go.ChangeAt Go.RowKit
theorem rparts_not {l : List Pt5} {cs : Array Value} {t t' : TypeId} {v : Value} (hl : l ≠ []) (h0 : cs[0]? = some v) (hv : (match v with | .int .. => false | _ => true) = true) (h : (some (Obj.cells cs t) : Option Obj) = some (.cells (l.flatMap Pt5.rc).toArray t')) : False := by
  injection h with h
  injection h with h1 h2
  subst h1
  obtain ⟨x, r, rfl⟩ := List.exists_cons_of_ne_nil hl
  simp [Pt5.rc] at h0
  subst h0
  simp at hv
theorem rparts_not2 {l : List Pt5} {q : Pk} {t t' : TypeId} (hl : l ≠ []) (hq : q.Wf) (h : (some (Obj.cells (pcs q).toArray t) : Option Obj) = some (.cells (l.flatMap Pt5.rc).toArray t')) : False := by
  injection h with h
  injection h with h1 h2
  have h3 : pcs q = l.flatMap Pt5.rc := by simpa using congrArg Array.toList h1
  have h4 : (pcs q)[12]? = some (.int .u8 (q.s.getD 0 0)) := by
    have := ncs_at .u8 q.s 0 (by rw [hq.s]; decide)
    unfold ncs at this
    rw [List.getElem?_toArray] at this
    rw [pcs, List.getElem?_append_right (by rw [nrow_len, hq.h]; exact Nat.le_refl _), nrow_len, hq.h, List.getElem?_append_left (by rw [nrow_len, hq.s]; decide)]
    exact this
  rw [h3] at h4
  have h5 := List.mem_of_getElem? h4
  rw [List.mem_flatMap] at h5
  obtain ⟨x, _, hx⟩ := h5
  simp [Pt5.rc] at hx
def fil (r o : List Int) (k : Nat) : List Int := r.take k ++ o.drop k
theorem fil_zero (r o : List Int) : fil r o 0 = o := by simp [fil]
theorem fil_len {r o : List Int} {k : Nat} (h : k ≤ r.length) (h2 : r.length ≤ o.length) : (fil r o k).length = o.length := by
  simp only [fil, List.length_append, List.length_take, List.length_drop]
  omega
theorem fil_all {r o : List Int} {n : Nat} (h : r.length = n) (h2 : o.length = n) : fil r o n = r := by
  unfold fil
  rw [List.take_of_length_le (by omega), List.drop_of_length_le (by omega), List.append_nil]
theorem fil_set {r o : List Int} {k : Nat} (h : k < r.length) (h2 : r.length ≤ o.length) : (fil r o k).set k (r.getD k 0) = fil r o (k + 1) := by
  have e : (r.take k).length = k := by rw [List.length_take]; omega
  unfold fil
  rw [List.set_append_right _ _ (by rw [e]; exact Nat.le_refl _), e, Nat.sub_self, List.drop_eq_getElem_cons (show k < o.length by omega), List.set_cons_zero, List.take_succ_eq_append_getElem h, List.append_assoc]
  simp [List.getD, h]
theorem own_block {k : IntKind} {E : TypeId} {base : Nat} {w : World} {A : Option Addr} {c : Nat} {l : List Int} (h : OwnN k E base w A c l) : ∀ a, A = some a → base ≤ a.block := by
  rcases h.1.2 with ⟨h1, _⟩ | ⟨g, cap, cur, hv, hb, _⟩
  · intro a ha
    injection h1 with hA
    rw [hA] at ha
    cases ha
  · injection hv with hA
    intro a ha
    rw [hA] at ha
    injection ha with ha
    rw [← ha]
    exact hb
theorem pcs_src {p : Pk} (h : p.Wf) (i : Nat) (hi : i < 16) : (pcs p).toArray[12 + i]? = some (.int .u8 (p.s.getD i 0)) := by
  have := ncs_at .u8 p.s i (by rw [h.s]; exact hi)
  unfold ncs at this
  rw [List.getElem?_toArray] at this
  rw [List.getElem?_toArray, pcs, List.getElem?_append_right (by simp [nrow_len, h.h]), nrow_len, h.h, List.getElem?_append_left (by rw [nrow_len, h.s]; omega), ← this]
  congr 1
  omega
theorem pcs_srcset {p : Pk} (h : p.Wf) (i : Nat) (hi : i < 16) (x : Int) : (pcs p).set (12 + i) (.int .u8 x) = pcs ({ p with s := p.s.set i x } : Pk) := by
  rw [pcs, pcs, List.set_append_right _ _ (by simp [nrow_len, h.h]), nrow_len, h.h, List.set_append_left _ _ (by rw [nrow_len, h.s]; omega)]
  rw [show 12 + i - 12 = i by omega, show (nrow .u8 p.s).set i (.int .u8 x) = nrow .u8 (p.s.set i x) by simp [nrow, List.map_set]]
theorem pcs_tl {p : Pk} (h : p.Wf) (i : Nat) (hi : i < 8) : (pcs p).toArray[28 + i]? = some (.int .u8 (p.t.getD i 0)) := by
  have := ncs_at .u8 p.t i (by rw [h.t]; exact hi)
  unfold ncs at this
  rw [List.getElem?_toArray] at this
  rw [List.getElem?_toArray, pcs, ← List.append_assoc, List.getElem?_append_right (by simp [nrow_len, h.h, h.s]), ← this]
  congr 1
  simp [nrow_len, h.h, h.s]
theorem pcs_tlset {p : Pk} (h : p.Wf) (i : Nat) (x : Int) : (pcs p).set (28 + i) (.int .u8 x) = pcs ({ p with t := p.t.set i x } : Pk) := by
  rw [pcs, pcs, ← List.append_assoc, List.set_append_right _ _ (by simp [nrow_len, h.h, h.s]), List.append_assoc]
  have e : 28 + i - (nrow .i64 p.h ++ nrow .u8 p.s).length = i := by simp [nrow_len, h.h, h.s]
  rw [e, show (nrow .u8 p.t).set i (.int .u8 x) = nrow .u8 (p.t.set i x) by simp [nrow, List.map_set]]
section
variable {P : Program} {l : List Oper} {Q : Exit → Act → World → Prop} {S : World → Prop}
theorem hd_pair {S' : World → Prop} (i j : Nat) {oi oj : Oper} {v : Value} {f : Nat} {ls : Array Bool} {a : Act} {w : World} (hi : l[i]? = some oi) (hj : l[j]? = some oj) (hr : Region.ready .any l.toArray ls = [i, j]) (hS : S w) (hS' : S' w) (hy : YieldsIf P l.toArray S' oi v a)
    (h1 : wpAnyH P .any l.toArray Q S f (ls.setIfInBounds i true) (a.put oi.dst v) w)
    (h2 : ∀ K' : Act → World → Prop, Shut (∀ a w, S w → (S w → wpAnyH P .any l.toArray Q S f (ls.setIfInBounds j true) a w) → K' a w) → if Region.wanted oj (yielded l.toArray a.tmps) = true then Oper.wp P oj a w K' Q else K' (a.put oj.dst undef) w) :
    wpAnyH P .any l.toArray Q S (f + 1) ls a w :=
  wpAnyH_ready hr (by simp) (fun k hk => by
    rcases List.mem_cons.1 hk with rfl | hk
    · exact hy.wpOp (by simpa using hi) hS' ⟨hS, h1⟩
    · exact (AllReadyH.cons (by simpa using hj) h2 AllReadyH.nil) k hk)
theorem hd_alone {S' : World → Prop} (i : Nat) {oi : Oper} {v : Value} {f : Nat} {ls : Array Bool} {a : Act} {w : World} (hi : l[i]? = some oi) (hr : Region.ready .any l.toArray ls = [i]) (hS : S w) (hS' : S' w) (hy : YieldsIf P l.toArray S' oi v a)
    (h1 : wpAnyH P .any l.toArray Q S f (ls.setIfInBounds i true) (a.put oi.dst v) w) : wpAnyH P .any l.toArray Q S (f + 1) ls a w :=
  wpAnyH_ready hr (by simp) (fun k hk => by
    rcases List.mem_cons.1 hk with rfl | hk
    · exact hy.wpOp (by simpa using hi) hS' ⟨hS, h1⟩
    · cases hk)
end
theorem wp_store_rowT {P : Program} {T : TypeId} {n : Nat} {o : Oper} {a : Act} {w : World} {K : Act → World → Prop} {Q : Exit → Act → World → Prop} (hi : (P.info? T).map (·.size) = some n) (x y : Operand) (ho : o.op = .store T x y) (g : Nat) (L M : List Value) (hL : L.length = n) (hM : M.length = n) (h1 : ∀ v ∈ L, v.oneCell' = true)
    (hx : a.eval x = .pointer (some ⟨g, 0, none⟩)) (hy : a.eval y = .agg L.toArray)
    (hw : w.heap[g]? = some (.cells M.toArray T)) (h : K (a.put o.dst undef) (setRow w g T L.toArray)) : o.wp P a w K Q := by
  unfold Oper.wp execOp
  have := arr_store_var hi w g L M hL hM h1 hw
  simp only [ho, hx, hy, Sem.run_bind, this, Result.andThen_ok, Sem.run_pure]
  exact h
set_option maxRecDepth 10000 in
set_option maxHeartbeats 40000000 in
theorem rdec_any (bs : List Int) (hb : ∀ x ∈ bs, 0 ≤ x ∧ x ≤ 255) (hlen : bs.length ≤ 1000000) (w : World) (A : Option Addr) (n c : Nat) (hn : bs.length = n) (hN : Nums .u8 w A bs) (pk : Pk) (hpk : decPk bs = pk) (er : Int) (her : (if decOk bs = true then (0 : Int) else 2) = er) :
    Calls Try.prog 14 #[.slice A n c] w fun e w' => e = .returned (.tuple #[.agg (pcs pk).toArray, .int .i64 er]) ∧ Below w.heap.size w w' := by
  have Hpk := Lib.hid hpk
  have Her := Lib.hid her
  clear hpk her
  have zpk := zero_pk
  obtain ⟨K, hK⟩ : ∃ K, dKind bs = K := ⟨_, rfl⟩
  obtain ⟨l, hl⟩ : ∃ l, held K = l := ⟨_, rfl⟩
  obtain ⟨m, hm⟩ : ∃ m, l.length = m := ⟨_, rfl⟩
  have hm7 : m ≤ 7 := by rw [← hm, ← hl]; exact held_len K
  have Hok := Lib.hid (show ∀ x ∈ l, x.Ok by rw [← hl]; exact held_ok K)
  have pkn : ∀ W : World, (storeCells ⟨W.heap.size, 0, none⟩ ((pcs pk0).set 0 (.int .i64 K)) 0).run Try.prog (W.alloc (.cells (pcs pk0).toArray pkT)) = .ok () (W.alloc (.cells (pcs (pkBare K)).toArray pkT)) := fun W => by
    rw [pcs_set pk0_wf 0 (by decide)]
    exact pk_new (pkBare_wf K) W
  have Lb : (pcs (pkBare K)).length = 36 := pcs_len (pkBare_wf K)
  have HN := Lib.hid hN
  have Hn := Lib.hid hn
  have Hb := Lib.hid hb
  have HK := Lib.hid hK
  have Hl := Lib.hid hl
  have Hm := Lib.hid hm
  have Hlen := Lib.hid hlen
  have Hd1 := Lib.hid (show dec1 bs = (dec0 bs).go l by unfold dec1; rw [hK, hl])
  have HF := Lib.hid (dec0_fine hb hlen)
  have Hq0 := Lib.hid (show (dec0 bs).q = pkBare K by show pkBare (dKind bs) = _; rw [hK])
  clear hK hl hm hN hn hb hlen
  go_enter Try.func14, Try.ntmps14
  go_wp2_with fail
  have RR := row_new (W := w) (cs := (pcs pk0).toArray) (t := pkT) (m := (0, 0))
  have B0 : Below w.heap.size w (w.alloc (.cells (pcs pk0).toArray pkT)) := (Below.refl _ _).alloc (Nat.le_refl _) _
  generalize w.alloc (.cells (pcs pk0).toArray pkT) = W0 at RR B0 ⊢
  refine (ref04.openH W0 A n c bs Hn.out (HN.out.below B0) (by rw [← Hn.out]; exact Hlen.out)).mono ?_
  rintro e w1 ⟨g, A1, c1, rfl, hg, H1, hB1, hA1⟩
  have RR := row_kept RR hB1 (row_lt RR)
  have B1 := B0.trans (hB1.mono B0.size)
  have hw0 : w.heap.size < W0.heap.size := row_lt (by assumption)
  have H1 := Lib.hid (H1.half (K := w1.heap.size) (fun a ha => (hA1 a ha).2))
  clear hA1 hB1 B0
  go_wp2_with fail
  refine (ref04.numH H1.out Hb.out Hlen.out 1).mono ?_
  rintro e w2 ⟨rfl, H2, hbut, hbel⟩
  rw [show min (max (1 : Int) 1) 7 = 1 from rfl] at H2 ⊢
  rw [show be (ntake bs false 1) = K from HK.out]
  have hgl := H1.out.lt
  have RR := (hbut.1 _ (row_lt RR) (by omega)).trans RR
  have B2 := hbel w.heap.size w (by omega) B1
  have h12 := hbut.2
  have HH2 := Lib.hid H2
  clear hbut hbel B1 H1 H2
  go_upto_region 3 with (fail)
  have AN := (Below.refl w2.heap.size w2).alloc (Nat.le_refl _) (.cells (pcs (pkBare K)).toArray pkT)
  have RB := row_new (W := w2) (cs := (pcs (pkBare K)).toArray) (t := pkT) (m := (0, 0))
  have RR := row_kept RR AN (row_lt RR)
  have B3 := B2.trans (AN.mono B2.size)
  have H3 := Lib.hid (HH2.out.below (by omega) h12 AN)
  generalize w2.alloc (.cells (pcs (pkBare K)).toArray pkT) = V at RB RR B3 H3 ⊢
  obtain ⟨gq, hgq⟩ : ∃ g, g = w2.heap.size := ⟨_, rfl⟩
  rw [← hgq] at RB ⊢
  have hgg : g < gq := by omega
  have hKq : w1.heap.size ≤ gq := by omega
  have hwq : w.heap.size < gq := by omega
  have hwg : w.heap.size < g := by omega
  have cK := show V.cell? ⟨gq, 0, none⟩ = some (.int .i64 K) from (pk_cell RB (pkBare_wf K) 0 (by decide))
  clear AN HH2 B2 hgq hgl h12 hg hw0
  go_wp2_with fail
  refine (rparts_any K V).mono ?_
  rintro e w3 ⟨A3, rfl, HA, hB3⟩
  rw [Hl.out, Hm.out]
  rw [Hl.out] at HA
  have RB := row_kept RB hB3 (row_lt RB)
  have RR := row_kept RR hB3 (row_lt RR)
  have B4 := B3.trans (hB3.mono B3.size)
  have hKV : w1.heap.size ≤ V.heap.size := by have := row_lt (show V.heap[gq]? = _ by assumption); omega
  have H4 := H3.out.below H3.out.lt hKV hB3
  have HS := Lib.hid (And.intro RB (And.intro RR (And.intro B4 (And.intro H4 HA))))
  clear RB RR B3 B4 H4 HA hB3 H3 cK hKV
  go_wp2_with fail
  go_loopw [7] (fun i wr => ∃ k : Nat, k ≤ m ∧ i = .int .i64 k ∧ wr.heap[gq]? = some (.cells (pcs ((dec0 bs).go (l.take k)).q).toArray pkT) ∧ wr.heap[w.heap.size]? = some (.cells (pcs pk0).toArray pkT) ∧ Half ref04.rdT w1.heap.size wr g ((dec0 bs).go (l.take k)).rest ((dec0 bs).go (l.take k)).bad ∧ RPtsAt wr A3 l ∧ Below w.heap.size w wr) (fun i _ => m - (intOf i).toNat)
  case atStart => exact ⟨0, Nat.zero_le _, rfl, (by rw [List.take_zero, show ((dec0 bs).go []).q = pkBare K from Hq0.out]; exact HS.out.1), HS.out.2.1, (by rw [List.take_zero]; exact HS.out.2.2.2.1), HS.out.2.2.2.2, HS.out.2.2.1⟩
  case round =>
    obtain ⟨k, hk, rfl, RB, RR, H, HA, hB⟩ := hrel
    clear HS
    have HFk := Lib.hid (HF.out.go (l.take k))
    obtain ⟨d, hd⟩ : ∃ d, (dec0 bs).go (l.take k) = d := ⟨_, rfl⟩
    rw [hd] at RB H HFk
    by_cases hkn : k < m
    · obtain ⟨x, hx⟩ : ∃ x, l[k]? = some x := ⟨_, List.getElem?_eq_getElem (by rw [Hm.out]; exact hkn)⟩
      have hxo := Hok.out x (List.mem_of_getElem? hx)
      have hl0 : l ≠ [] := fun h0 => by rw [h0] at hx; cases hx
      rcases HA with h0 | ⟨gA, tA, rfl, RA⟩
      · exact absurd h0 hl0
      have HXO := Lib.hid hxo
      have Hstep := Lib.hid (show (dec0 bs).go (l.take (k + 1)) = d.step x by rw [take_snoc5 hx, Dst.go_snoc, hd])
      have q0 : (0 : Int) ≤ (k : Int) := by omega
      have q1 : (k : Int) < (m : Int) := by omega
      have q2' : (m : Int) ≤ 7 := by omega
      have hA1 : gA ≠ g := fun he => by
        obtain ⟨A', c', h1, -⟩ := H
        rw [he, h1] at RA
        exact rparts_not hl0 (cs := #[.slice A' d.rest.length c', .bool d.bad]) (v := .slice A' d.rest.length c') rfl rfl RA
      have hA2 : gA ≠ gq := fun he => by
        rw [he, RB] at RA
        exact rparts_not2 hl0 HFk.out.wf RA
      have HC := Lib.hid (show ∀ W : World, W.heap[gA]? = some (.cells (l.flatMap Pt5.rc).toArray tA) → (W.cell? ⟨gA, k * 4, none⟩ = some (.int .i64 ((x.j : Int) - 1)) ∧ W.cell? ⟨gA, k * 4 + 1, none⟩ = some (.int .i64 (if x.j ≤ 11 then x.sz else if x.j = 12 then 16 else 8))) from fun W h => ⟨by have := rcell h hx 0 (by decide); simpa [Pt5.rc] using this, by have := rcell h hx 1 (by decide); simpa [Pt5.rc] using this⟩)
      have HHd := Lib.hid H
      have hqg : gq ≠ g := by omega
      have hwg2 : w.heap.size ≠ g := by omega
      have LDQ := pcs_len HFk.out.wf
      have hFin := Lib.hid (show ∀ (W : World), W.heap[gq]? = some (.cells (pcs (x.rd d.rest d.bad d.q)).toArray pkT) → W.heap[w.heap.size]? = some (.cells (pcs pk0).toArray pkT) → Half ref04.rdT w1.heap.size W g (ndrop d.rest d.bad (x.am : Int)) (nbad d.rest d.bad (x.am : Int)) → W.heap[gA]? = some (.cells (l.flatMap Pt5.rc).toArray tA) → Below w.heap.size w W →
        (k + 1 ≤ m ∧ W.heap[gq]? = some (.cells (pcs ((dec0 bs).go (l.take (k + 1))).q).toArray pkT) ∧ W.heap[w.heap.size]? = some (.cells (pcs pk0).toArray pkT) ∧ Half ref04.rdT w1.heap.size W g ((dec0 bs).go (l.take (k + 1))).rest ((dec0 bs).go (l.take (k + 1))).bad ∧ RPtsAt W (some ⟨gA, 0, none⟩) l ∧ Below w.heap.size w W) from fun W h1 h2 h3 h4 h5 =>
        ⟨by omega, by rw [Hstep.out]; exact h1, h2, by rw [Hstep.out]; exact h3, Or.inr ⟨gA, tA, rfl, h4⟩, h5⟩)
      have C0 := (HC.out _ RA).1
      have hj1 := HXO.out.j1
      have hj2 := HXO.out.j2
      have hB0 := hB
      clear hx hxo hl0 hd H hB
      have hcase : (x.j = 12) ∨ (x.j = 13) ∨ (x.j ≤ 11) := by omega
      rcases hcase with hj | hj | hj
      · -- the secret
        have hv : ((x.j : Int) - 1) = 11 := by omega
        rw [hv] at C0
        have ham : x.am = 16 := by unfold Pt5.am; rw [if_neg (by omega), if_pos hj]
        obtain ⟨raw, hraw⟩ : ∃ raw, ntake d.rest d.bad 16 = raw := ⟨_, rfl⟩
        obtain ⟨nn, hnn⟩ : ∃ nn, raw.length = nn := ⟨_, rfl⟩
        have hln : nn ≤ 16 := by
          rw [← hnn, ← hraw]
          unfold ntake
          split
          · exact Nat.zero_le _
          · rw [List.length_take]; omega
        have hrd : x.rd d.rest d.bad d.q = { d.q with s := fil raw d.q.s nn } := by
          unfold Pt5.rd
          rw [if_neg (by omega), ham, ← hnn]
          cases hb : nbad d.rest d.bad ((16 : Nat) : Int)
          · rw [if_neg (by simp), if_pos hj]
            have h2 : raw = d.rest.take 16 := by rw [← hraw]; unfold ntake; rw [show nbad d.rest d.bad 16 = false from hb]; rfl
            have h3 : raw.length = 16 := by
              rw [h2, List.length_take]
              simp [nbad] at hb
              omega
            rw [h3, fil_all h3 HFk.out.wf.s, h2]
          · rw [if_pos rfl]
            have h2 : raw = [] := by rw [← hraw]; unfold ntake; rw [show nbad d.rest d.bad 16 = true from hb]; rfl
            rw [h2]; rfl
        rw [ham, hrd] at hFin
        have Hnn := Lib.hid hnn
        have HSl := Lib.hid (show raw.length ≤ d.q.s.length by rw [HFk.out.wf.s, hnn]; exact hln)
        have HW := Lib.hid (show ∀ k2, k2 ≤ nn → ({ d.q with s := fil raw d.q.s k2 } : Pk).Wf from fun k2 hk2 => ⟨HFk.out.wf.h, by rw [fil_len (by omega) HSl.out]; exact HFk.out.wf.s, HFk.out.wf.t⟩)
        have hKw : w1.heap.size ≤ wr.heap.size := by have := row_lt RB; omega
        clear hj hj1 hj2 hv ham hrd hnn
        go_wp2_with fail
        refine (ref04.takeH HHd.out HFk.out.len 16).mono ?_
        rintro e w4 ⟨A', c', rfl, hO, H4, hbut, hbel⟩
        rw [hraw] at hO
        rw [hraw, Hnn.out]
        have R1 := (hbut.1 _ (row_lt RB) hqg).trans RB
        have RA4 := (hbut.1 _ (row_lt RA) hA1).trans RA
        have RR4 := (hbut.1 _ (row_lt RR) hwg2).trans RR
        have B4 := hbel w.heap.size w (by omega) hB0
        have hgqw := row_lt RB
        have hA' : ∀ a, A' = some a → a.block ≠ gq := fun a ha => by have := own_block hO a ha; omega
        have HNR := Lib.hid (show ∀ cs, Nums .u8 (setRow w4 gq pkT cs) A' raw from fun cs => But.set.nums hO.nums hA')
        obtain ⟨A9, c9, h91, h92, h93, h94, h95⟩ := H4
        have HE := Lib.hid (hFin.out (setRow w4 gq pkT (pcs ({ d.q with s := fil raw d.q.s nn } : Pk)).toArray) (row_written R1) ((setRow_far (by omega)).trans RR4) ⟨A9, c9, (setRow_far (Ne.symm hqg)).trans h91, But.set.nums h92 (fun a ha => by have := (h95 a ha).1; omega), h93, h94, h95⟩ ((setRow_far hA2).trans RA4) (setRow_below B4 (by omega)))
        have hg4 := row_lt R1
        have HST := Lib.hid (show setRow w4 gq pkT (pcs ({ d.q with s := fil raw d.q.s 0 } : Pk)).toArray = w4 by
          rw [show ({ d.q with s := fil raw d.q.s 0 } : Pk) = d.q by rw [fil_zero]]
          exact setRow_same8 R1)
        clear hO hbut hbel h91 h92 h93 h94 h95 R1 RA4 RR4 B4 hA' RB RA RR HC hB0 C0 hraw hgqw hFin
        go_wp2_with fail
        go_loopw [9] (fun i wr => ∃ k2 : Nat, k2 ≤ nn ∧ i = .int .i64 k2 ∧ wr = setRow w4 gq pkT (pcs ({ d.q with s := fil raw d.q.s k2 } : Pk)).toArray) (fun i _ => nn - (intOf i).toNat)
        case atStart => exact ⟨0, Nat.zero_le _, rfl, HST.out.symm⟩
        case round =>
          obtain ⟨k2, hk2, rfl, hwr⟩ := hrel
          clear HST
          by_cases hlt : k2 < nn
          · have hNw : Nums .u8 wr A' raw := by rw [hwr]; exact HNR.out _
            have R1 : wr.heap[gq]? = some (.cells (pcs ({ d.q with s := fil raw d.q.s k2 } : Pk)).toArray pkT) := by rw [hwr]; exact setRow_row hg4
            have Hwr := Lib.hid hwr
            rcases hNw with h0 | ⟨b, o9, rfl, hlt9, hcl⟩
            · have := Hnn.out
              rw [h0] at this
              simp at this
              omega
            have C1 := hcl k2 (by rw [Hnn.out]; exact hlt)
            have M1 := pcs_src (HW.out k2 hk2) k2 (by omega)
            have Hsa := Lib.hid (show (pcs ({ d.q with s := fil raw d.q.s k2 } : Pk)).toArray.setIfInBounds (12 + k2) (.int .u8 (raw.getD k2 0)) = (pcs ({ d.q with s := fil raw d.q.s (k2 + 1) } : Pk)).toArray by
              rw [List.setIfInBounds_toArray, pcs_srcset (HW.out k2 hk2) k2 (by omega)]
              show (pcs ({ d.q with s := (fil raw d.q.s k2).set k2 (raw.getD k2 0) } : Pk)).toArray = _
              rw [fil_set (by rw [Hnn.out]; exact hlt) HSl.out])
            generalize ({ d.q with s := fil raw d.q.s k2 } : Pk).s.getD k2 0 = y at M1
            generalize hL : (pcs ({ d.q with s := fil raw d.q.s k2 } : Pk)).toArray = L at R1 M1 Hsa Hwr
            generalize hx9 : raw.getD k2 0 = xv at C1 Hsa
            obtain ⟨s0, s1, d0, d1, f0, f1, zz⟩ := rows1 R1
            have p0 : (0 : Int) ≤ (k2 : Int) := by omega
            have p1 : (k2 : Int) < (nn : Int) := by omega
            have p2 : (k2 : Int) < 16 := by omega
            clear hL hx9 hcl hwr
            go_wp2
            go_roundw
            case rel => exact ⟨k2 + 1, by omega, by go_num, by rw [Hwr.out, setRow_twice, ← Hsa.out]⟩
            case measure => simp [intOf]; omega
          · obtain rfl : k2 = nn := by omega
            have Hwr := Lib.hid hwr
            clear hwr
            go_wp2_with fail
            go_roundw
            case rel => rw [Hwr.out]; exact ⟨k + 1, HE.out.1, by go_num, HE.out.2⟩
            case measure => simp [intOf]; omega
      · -- the tag
        have hv : ((x.j : Int) - 1) = 12 := by omega
        rw [hv] at C0
        have ham : x.am = 8 := by unfold Pt5.am; rw [if_neg (by omega), if_neg (by omega)]
        obtain ⟨raw, hraw⟩ : ∃ raw, ntake d.rest d.bad 8 = raw := ⟨_, rfl⟩
        obtain ⟨nn, hnn⟩ : ∃ nn, raw.length = nn := ⟨_, rfl⟩
        have hln : nn ≤ 8 := by
          rw [← hnn, ← hraw]
          unfold ntake
          split
          · exact Nat.zero_le _
          · rw [List.length_take]; omega
        have hrd : x.rd d.rest d.bad d.q = { d.q with t := fil raw d.q.t nn } := by
          unfold Pt5.rd
          rw [if_neg (by omega), ham, ← hnn]
          cases hb : nbad d.rest d.bad ((8 : Nat) : Int)
          · rw [if_neg (by simp), if_neg (by omega)]
            have h2 : raw = d.rest.take 8 := by rw [← hraw]; unfold ntake; rw [show nbad d.rest d.bad 8 = false from hb]; rfl
            have h3 : raw.length = 8 := by
              rw [h2, List.length_take]
              simp [nbad] at hb
              omega
            rw [h3, fil_all h3 HFk.out.wf.t, h2]
          · rw [if_pos rfl]
            have h2 : raw = [] := by rw [← hraw]; unfold ntake; rw [show nbad d.rest d.bad 8 = true from hb]; rfl
            rw [h2]; rfl
        rw [ham, hrd] at hFin
        have Hnn := Lib.hid hnn
        have HSl := Lib.hid (show raw.length ≤ d.q.t.length by rw [HFk.out.wf.t, hnn]; exact hln)
        have HW := Lib.hid (show ∀ k2, k2 ≤ nn → ({ d.q with t := fil raw d.q.t k2 } : Pk).Wf from fun k2 hk2 => ⟨HFk.out.wf.h, HFk.out.wf.s, by rw [fil_len (by omega) HSl.out]; exact HFk.out.wf.t⟩)
        have hKw : w1.heap.size ≤ wr.heap.size := by have := row_lt RB; omega
        clear hj hj1 hj2 hv ham hrd hnn
        go_wp2_with fail
        refine (ref04.takeH HHd.out HFk.out.len 8).mono ?_
        rintro e w4 ⟨A', c', rfl, hO, H4, hbut, hbel⟩
        rw [hraw] at hO
        rw [hraw, Hnn.out]
        have R1 := (hbut.1 _ (row_lt RB) hqg).trans RB
        have RA4 := (hbut.1 _ (row_lt RA) hA1).trans RA
        have RR4 := (hbut.1 _ (row_lt RR) hwg2).trans RR
        have B4 := hbel w.heap.size w (by omega) hB0
        have hgqw := row_lt RB
        have hA' : ∀ a, A' = some a → a.block ≠ gq := fun a ha => by have := own_block hO a ha; omega
        have HNR := Lib.hid (show ∀ cs, Nums .u8 (setRow w4 gq pkT cs) A' raw from fun cs => But.set.nums hO.nums hA')
        obtain ⟨A9, c9, h91, h92, h93, h94, h95⟩ := H4
        have HE := Lib.hid (hFin.out (setRow w4 gq pkT (pcs ({ d.q with t := fil raw d.q.t nn } : Pk)).toArray) (row_written R1) ((setRow_far (by omega)).trans RR4) ⟨A9, c9, (setRow_far (Ne.symm hqg)).trans h91, But.set.nums h92 (fun a ha => by have := (h95 a ha).1; omega), h93, h94, h95⟩ ((setRow_far hA2).trans RA4) (setRow_below B4 (by omega)))
        have hg4 := row_lt R1
        have HST := Lib.hid (show setRow w4 gq pkT (pcs ({ d.q with t := fil raw d.q.t 0 } : Pk)).toArray = w4 by
          rw [show ({ d.q with t := fil raw d.q.t 0 } : Pk) = d.q by rw [fil_zero]]
          exact setRow_same8 R1)
        clear hO hbut hbel h91 h92 h93 h94 h95 R1 RA4 RR4 B4 hA' RB RA RR HC hB0 C0 hraw hgqw hFin
        go_wp2_with fail
        go_loopw [11] (fun i wr => ∃ k2 : Nat, k2 ≤ nn ∧ i = .int .i64 k2 ∧ wr = setRow w4 gq pkT (pcs ({ d.q with t := fil raw d.q.t k2 } : Pk)).toArray) (fun i _ => nn - (intOf i).toNat)
        case atStart => exact ⟨0, Nat.zero_le _, rfl, HST.out.symm⟩
        case round =>
          obtain ⟨k2, hk2, rfl, hwr⟩ := hrel
          clear HST
          by_cases hlt : k2 < nn
          · have hNw : Nums .u8 wr A' raw := by rw [hwr]; exact HNR.out _
            have R1 : wr.heap[gq]? = some (.cells (pcs ({ d.q with t := fil raw d.q.t k2 } : Pk)).toArray pkT) := by rw [hwr]; exact setRow_row hg4
            have Hwr := Lib.hid hwr
            rcases hNw with h0 | ⟨b, o9, rfl, hlt9, hcl⟩
            · have := Hnn.out
              rw [h0] at this
              simp at this
              omega
            have C1 := hcl k2 (by rw [Hnn.out]; exact hlt)
            have M1 := pcs_tl (HW.out k2 hk2) k2 (by omega)
            have Hsa := Lib.hid (show (pcs ({ d.q with t := fil raw d.q.t k2 } : Pk)).toArray.setIfInBounds (28 + k2) (.int .u8 (raw.getD k2 0)) = (pcs ({ d.q with t := fil raw d.q.t (k2 + 1) } : Pk)).toArray by
              rw [List.setIfInBounds_toArray, pcs_tlset (HW.out k2 hk2)]
              show (pcs ({ d.q with t := (fil raw d.q.t k2).set k2 (raw.getD k2 0) } : Pk)).toArray = _
              rw [fil_set (by rw [Hnn.out]; exact hlt) HSl.out])
            generalize ({ d.q with t := fil raw d.q.t k2 } : Pk).t.getD k2 0 = y at M1
            generalize hL : (pcs ({ d.q with t := fil raw d.q.t k2 } : Pk)).toArray = L at R1 M1 Hsa Hwr
            generalize hx9 : raw.getD k2 0 = xv at C1 Hsa
            obtain ⟨s0, s1, d0, d1, f0, f1, zz⟩ := rows1 R1
            have p0 : (0 : Int) ≤ (k2 : Int) := by omega
            have p1 : (k2 : Int) < (nn : Int) := by omega
            have p2 : (k2 : Int) < 8 := by omega
            clear hL hx9 hcl hwr
            go_wp2
            go_roundw
            case rel => exact ⟨k2 + 1, by omega, by go_num, by rw [Hwr.out, setRow_twice, ← Hsa.out]⟩
            case measure => simp [intOf]; omega
          · obtain rfl : k2 = nn := by omega
            have Hwr := Lib.hid hwr
            clear hwr
            go_wp2_with fail
            go_roundw
            case rel => rw [Hwr.out]; exact ⟨k + 1, HE.out.1, by go_num, HE.out.2⟩
            case measure => simp [intOf]; omega
      · obtain ⟨v, hv⟩ : ∃ v, ((x.j : Int) - 1) = v := ⟨_, rfl⟩
        have HV := Lib.hid hv
        have HJ := Lib.hid (And.intro hj1 hj)
        obtain ⟨sz, hsz⟩ : ∃ sz : Nat, x.sz = (sz : Int) := by rcases HXO.out.sz hj with h | h <;> exact ⟨_, h⟩
        have hsz7 : 1 ≤ sz ∧ sz ≤ 7 := by rcases HXO.out.sz hj with h | h <;> omega
        have ham : x.am = sz := by unfold Pt5.am; rw [if_pos hj, hsz]; rfl
        have Ham := Lib.hid (show min (max (sz : Int) 1) 7 = (x.am : Int) by rw [ham]; omega)
        obtain ⟨y, hy⟩ : ∃ y, be (ntake d.rest d.bad (x.am : Int)) = y := ⟨_, rfl⟩
        have Hy := Lib.hid hy
        obtain ⟨q2, hq2⟩ : ∃ q2, ({ d.q with h := d.q.h.set x.j y } : Pk) = q2 := ⟨_, rfl⟩
        have Hq2 := Lib.hid hq2
        have Hrd := Lib.hid (show x.rd d.rest d.bad d.q = q2 by unfold Pt5.rd; rw [if_pos hj, hy, hq2])
        have Hq2w := Lib.hid (show q2.Wf by rw [← hq2]; exact ⟨by rw [List.length_set]; exact HFk.out.wf.h, HFk.out.wf.s, HFk.out.wf.t⟩)
        have LQ2 := pcs_len Hq2w.out
        have v11 : (v == 11) = false := beq_eq_false_iff_ne.2 (by omega)
        have v12 : (v == 12) = false := beq_eq_false_iff_ne.2 (by omega)
        rw [hv] at C0
        rw [hv, if_pos hj, hsz] at HC
        have hKw : w1.heap.size ≤ wr.heap.size := by have := row_lt RB; omega
        have hB1 := Lib.hid (show Below w.heap.size w wr.drew from hB0.trans ((below_drewN (Below.refl wr.heap.size wr) 1).mono hB0.size))
        have HHw := Lib.hid (show Half ref04.rdT w1.heap.size wr.drew g d.rest d.bad from HHd.out)
        clear hv hj1 hj2 hj hy hq2 hsz hsz7 ham
        go_upto_region 8 with (fail)
        refine hd_start (fun W => W.heap[gA]? = some (.cells (l.flatMap Pt5.rc).toArray tA)) (by kernel_rfl) (RA) (fun hHeld => ?_)
        refine hd_take (v := ?_) 1 rfl (by kernel_rfl) (by kernel_rfl) (by kernel_rfl) (fun _ _ _ h => h) hHeld (Or.inl ⟨by rfl, ?_⟩) ?_
        rotate_left
        · (intro W hSw; go_simp) <;> with_reducible rfl
        (try simp only [Act.put, List.setIfInBounds_toArray, List.set_cons_zero, List.set_cons_succ])
        refine hd_take (v := ?_) 2 rfl (by kernel_rfl) (by kernel_rfl) (by kernel_rfl) (fun _ _ _ h => h) hHeld (Or.inl ⟨by rfl, ?_⟩) ?_
        rotate_left
        · (intro W hSw; go_simp) <;> with_reducible rfl
        (try simp only [Act.put, List.setIfInBounds_toArray, List.set_cons_zero, List.set_cons_succ])
        refine hd_take (v := ?_) 3 rfl (by kernel_rfl) (by kernel_rfl) (by kernel_rfl) (fun _ _ _ h => h) hHeld (Or.inl ⟨by rfl, ?_⟩) ?_
        rotate_left
        · (intro W hSw; go_simp) <;> with_reducible rfl
        (try simp only [Act.put, List.setIfInBounds_toArray, List.set_cons_zero, List.set_cons_succ])
        refine hd_take (v := ?_) 4 rfl (by kernel_rfl) (by kernel_rfl) (by kernel_rfl) (fun _ _ _ h => h) hHeld (Or.inl ⟨by rfl, ?_⟩) ?_
        rotate_left
        · (intro W hSw; go_simp) <;> with_reducible rfl
        (try simp only [Act.put, List.setIfInBounds_toArray, List.set_cons_zero, List.set_cons_succ])
        refine hd_take (v := ?_) 5 rfl (by kernel_rfl) (by kernel_rfl) (by kernel_rfl) (fun _ _ _ h => h) hHeld (Or.inl ⟨by rfl, ?_⟩) ?_
        rotate_left
        · (intro W hSw; have cJ := (HC.out W hSw).1; go_simp) <;> with_reducible rfl
        (try simp only [Act.put, List.setIfInBounds_toArray, List.set_cons_zero, List.set_cons_succ])
        refine hd_take (v := ?_) 6 rfl (by kernel_rfl) (by kernel_rfl) (by kernel_rfl) (fun _ _ _ h => h) hHeld (Or.inl ⟨by rfl, ?_⟩) ?_
        rotate_left
        · (intro W hSw; go_simp) <;> with_reducible rfl
        (try simp only [Act.put, List.setIfInBounds_toArray, List.set_cons_zero, List.set_cons_succ])
        refine hd_take (v := ?_) 7 rfl (by kernel_rfl) (by kernel_rfl) (by kernel_rfl) (fun _ _ _ h => h) hHeld (Or.inl ⟨by rfl, ?_⟩) ?_
        rotate_left
        · (intro W hSw; go_simp) <;> with_reducible rfl
        (try simp only [Act.put, List.setIfInBounds_toArray, List.set_cons_zero, List.set_cons_succ])
        refine hd_take (v := ?_) 8 rfl (by kernel_rfl) (by kernel_rfl) (by kernel_rfl) (fun _ _ _ h => h) hHeld (Or.inl ⟨by rfl, ?_⟩) ?_
        rotate_left
        · (intro W hSw; go_simp) <;> with_reducible rfl
        (try simp only [Act.put, List.setIfInBounds_toArray, List.set_cons_zero, List.set_cons_succ])
        refine hd_take (v := ?_) 9 rfl (by kernel_rfl) (by kernel_rfl) (by kernel_rfl) (fun _ _ _ h => h) hHeld (Or.inl ⟨by rfl, ?_⟩) ?_
        rotate_left
        · (intro W hSw; go_simp) <;> with_reducible rfl
        (try simp only [Act.put, List.setIfInBounds_toArray, List.set_cons_zero, List.set_cons_succ])
        refine hd_take (v := ?_) 10 rfl (by kernel_rfl) (by kernel_rfl) (by kernel_rfl) (fun _ _ _ h => h) hHeld (Or.inl ⟨by rfl, ?_⟩) ?_
        rotate_left
        · (intro W hSw; go_simp) <;> with_reducible rfl
        (try simp only [Act.put, List.setIfInBounds_toArray, List.set_cons_zero, List.set_cons_succ])
        refine hd_take (v := ?_) 11 rfl (by kernel_rfl) (by kernel_rfl) (by kernel_rfl) (fun _ _ _ h => h) hHeld (Or.inl ⟨by rfl, ?_⟩) ?_
        rotate_left
        · (intro W hSw; have cJ := (HC.out W hSw).2; go_simp) <;> with_reducible rfl
        (try simp only [Act.put, List.setIfInBounds_toArray, List.set_cons_zero, List.set_cons_succ])
        refine hd_pair (S' := fun W => W.heap[gq]? = some (.cells (pcs d.q).toArray pkT)) 0 12 rfl rfl (by kernel_rfl) RA RB (hd_row Try.underlying25 rfl info_pk (by rfl) (.tmp 5) rfl gq 0 rfl (pcs d.q) LDQ (fun W h => range_row h)) ?_ (fun K' hK => ?_)
        · (try simp only [Act.put, List.setIfInBounds_toArray, List.set_cons_zero, List.set_cons_succ])
          refine hd_one 12 rfl (by kernel_rfl) (fun K' hK => ?_)
          go_simp
          refine (ref04.numH (w := wr.drew) HHw.out HFk.out.by1 HFk.out.len sz).mono ?_
          rintro e w4 ⟨rfl, H4, hbut, hbel⟩
          rw [show min (max (sz : Int) 1) 7 = (x.am : Int) from Ham.out] at H4 ⊢
          rw [Hy.out]
          have RBn := (hbut.1 _ (row_lt RB) hqg).trans RB
          have RAn := (hbut.1 _ (row_lt RA) hA1).trans RA
          have RRn := (hbut.1 _ (row_lt RR) hwg2).trans RR
          have H4 := Lib.hid H4
          have B4 := Lib.hid (hbel w.heap.size w (by omega) hB1.out)
          have hs4 := hbut.2
          clear hbut hbel
          go_wp2_with fail
          refine hK.out _ _ (RAn) (fun hHeld => ?_)
          clear hK K'
          (try simp only [Act.put, List.setIfInBounds_toArray, List.set_cons_zero, List.set_cons_succ])
          refine hd_one 13 rfl (by kernel_rfl) (fun K' hK => ?_)
          go_simp
          refine (rwith_any d.q HFk.out.wf x.j HJ.out.1 HJ.out.2 y w4 v HV.out q2 Hq2.out).mono ?_
          rintro e w5 ⟨rfl, hb5⟩
          have RBm := row_kept RBn hb5 (row_lt RBn)
          have RAm := row_kept RAn hb5 (row_lt RAn)
          have RRm := row_kept RRn hb5 (row_lt RRn)
          have H5 := Lib.hid (H4.out.below H4.out.lt (Nat.le_trans hKw hs4) hb5)
          have B5 := Lib.hid (B4.out.trans (hb5.mono B4.out.size))
          go_wp2_with fail
          refine hK.out _ _ (RAm) (fun hHeld => ?_)
          clear hK K'
          (try simp only [Act.put, List.setIfInBounds_toArray, List.set_cons_zero, List.set_cons_succ])
          refine hd_one 14 rfl (by kernel_rfl) (fun K' hK => ?_)
          rw [if_pos (by rfl)]
          refine wp_store_rowT info_pk (.tmp 5) (.tmp 44) rfl gq (pcs q2) (pcs d.q) LQ2 LDQ (pcs_one _) rfl rfl RBm ?_
          refine hK.out _ _ ((setRow_far hA2).trans RAm) (fun hHeld => ?_)
          clear hK K'
          (try simp only [Act.put, List.setIfInBounds_toArray, List.set_cons_zero, List.set_cons_succ])
          refine wpAnyH_done (by kernel_rfl) ?_ _
          obtain ⟨A9, c9, h91, h92, h93, h94, h95⟩ := H5.out
          have hE := hFin.out (setRow w5 gq pkT (pcs q2).toArray) (by rw [Hrd.out]; exact row_written RBm) ((setRow_far (by omega)).trans RRm) ⟨A9, c9, (setRow_far (Ne.symm hqg)).trans h91, But.set.nums h92 (fun a ha => by have := (h95 a ha).1; omega), h93, h94, h95⟩ ((setRow_far hA2).trans RAm) (setRow_below B5.out (by omega))
          have HE := Lib.hid hE
          clear hE h91 h92 h93 h94 h95
          go_wp2_with fail
          go_roundw
          case rel => exact ⟨k + 1, HE.out.1, by go_num, HE.out.2⟩
          case measure => simp [intOf]; omega
        · go_simp
          refine (ref04.numH (w := wr.drew) HHw.out HFk.out.by1 HFk.out.len sz).mono ?_
          rintro e w4 ⟨rfl, H4, hbut, hbel⟩
          rw [show min (max (sz : Int) 1) 7 = (x.am : Int) from Ham.out] at H4 ⊢
          rw [Hy.out]
          have RBn := (hbut.1 _ (row_lt RB) hqg).trans RB
          have RAn := (hbut.1 _ (row_lt RA) hA1).trans RA
          have RRn := (hbut.1 _ (row_lt RR) hwg2).trans RR
          have H4 := Lib.hid H4
          have B4 := Lib.hid (hbel w.heap.size w (by omega) hB1.out)
          have hs4 := hbut.2
          clear hbut hbel
          go_wp2_with fail
          refine hK.out _ _ RAn (fun hHeld => ?_)
          clear hK K'
          (try simp only [Act.put, List.setIfInBounds_toArray, List.set_cons_zero, List.set_cons_succ])
          refine hd_alone (S' := fun W => W.heap[gq]? = some (.cells (pcs d.q).toArray pkT)) 0 rfl (by kernel_rfl) RAn RBn (hd_row Try.underlying25 rfl info_pk (by rfl) (.tmp 5) rfl gq 0 rfl (pcs d.q) LDQ (fun W h => range_row h)) ?_
          (try simp only [Act.put, List.setIfInBounds_toArray, List.set_cons_zero, List.set_cons_succ])
          refine hd_one 13 rfl (by kernel_rfl) (fun K' hK => ?_)
          go_simp
          refine (rwith_any d.q HFk.out.wf x.j HJ.out.1 HJ.out.2 y w4 v HV.out q2 Hq2.out).mono ?_
          rintro e w5 ⟨rfl, hb5⟩
          have RBm := row_kept RBn hb5 (row_lt RBn)
          have RAm := row_kept RAn hb5 (row_lt RAn)
          have RRm := row_kept RRn hb5 (row_lt RRn)
          have H5 := Lib.hid (H4.out.below H4.out.lt (Nat.le_trans hKw hs4) hb5)
          have B5 := Lib.hid (B4.out.trans (hb5.mono B4.out.size))
          go_wp2_with fail
          refine hK.out _ _ (RAm) (fun hHeld => ?_)
          clear hK K'
          (try simp only [Act.put, List.setIfInBounds_toArray, List.set_cons_zero, List.set_cons_succ])
          refine hd_one 14 rfl (by kernel_rfl) (fun K' hK => ?_)
          rw [if_pos (by rfl)]
          refine wp_store_rowT info_pk (.tmp 5) (.tmp 44) rfl gq (pcs q2) (pcs d.q) LQ2 LDQ (pcs_one _) rfl rfl RBm ?_
          refine hK.out _ _ ((setRow_far hA2).trans RAm) (fun hHeld => ?_)
          clear hK K'
          (try simp only [Act.put, List.setIfInBounds_toArray, List.set_cons_zero, List.set_cons_succ])
          refine wpAnyH_done (by kernel_rfl) ?_ _
          obtain ⟨A9, c9, h91, h92, h93, h94, h95⟩ := H5.out
          have hE := hFin.out (setRow w5 gq pkT (pcs q2).toArray) (by rw [Hrd.out]; exact row_written RBm) ((setRow_far (by omega)).trans RRm) ⟨A9, c9, (setRow_far (Ne.symm hqg)).trans h91, But.set.nums h92 (fun a ha => by have := (h95 a ha).1; omega), h93, h94, h95⟩ ((setRow_far hA2).trans RAm) (setRow_below B5.out (by omega))
          have HE := Lib.hid hE
          clear hE h91 h92 h93 h94 h95
          go_wp2_with fail
          go_roundw
          case rel => exact ⟨k + 1, HE.out.1, by go_num, HE.out.2⟩
          case measure => simp [intOf]; omega
    · obtain rfl : k = m := by omega
      rw [List.take_of_length_le (by rw [Hm.out]; exact Nat.le_refl _)] at hd
      have hd1 : dec1 bs = d := by rw [Hd1.out, hd]
      obtain ⟨dn, hdn⟩ : ∃ b, (!d.bad && decide (d.rest.length = 0)) = b := ⟨_, rfl⟩
      obtain ⟨r, hr⟩ : ∃ b, d.q.right = b := ⟨_, rfl⟩
      have hok : decOk bs = (dn && r) := by unfold decOk; rw [hd1, hdn, hr]
      have HOK := Lib.hid hok
      have HPK := Lib.hid (show decPk bs = if (dn && r) = true then d.q else pk0 by unfold decPk; rw [hok, hd1])
      have LZ : (pcs pk0).length = 36 := pcs_len pk0_wf
      have LQ : (pcs d.q).length = 36 := pcs_len HFk.out.wf
      have Hdn := Lib.hid hdn
      have Hr := Lib.hid hr
      have HH := Lib.hid H
      clear hd hd1 hok hdn hr HA pkn Lb hwg hgg hKq H
      have hRR := RR
      cases dn with
      | false =>
        go_wp2_with (first
          | (go_at_call 33; refine (ref04.doneH HH.out).mono ?_; rintro e w' ⟨rfl, rfl⟩; rw [Hdn.out])
          | (refine wpl_arr_store info_pk rfl (.tmp 2) (.tmp 87) rfl w.heap.size (pcs pk0) (pcs pk0) LZ LZ (pcs_one _) rfl rfl RR ?_))
        refine bodyPost_ret (v := .tuple #[.agg (pcs pk0).toArray, .int .i64 2]) (pk_results Try.results14 pk0_wf rfl rfl (row_written RR)) rfl ⟨?_, setRow_below hB (Nat.le_refl _)⟩
        rw [← Hpk.out, ← Her.out, HOK.out, HPK.out]; rfl
      | true =>
        go_wp2_with (first
          | (go_at_call 33; refine (ref04.doneH HH.out).mono ?_; rintro e w' ⟨rfl, rfl⟩; rw [Hdn.out])
          | ((refine wpl_pk ?_ (.tmp 5) ?_ gq d.q HFk.out.wf ?_ RB ?_); (rfl); (rfl); (rfl)))
        refine (rwright_any d.q HFk.out.wf _).mono ?_
        rintro e w5 ⟨rfl, hB5⟩
        have RR5 := row_kept RR hB5 (row_lt RR)
        have RB5 := row_kept RB hB5 (row_lt RB)
        have B5 := hB.trans (hB5.mono hB.size)
        rw [Hr.out]
        clear RR RB hB hB5
        cases r with
        | false =>
          go_wp2_with (first
            | (refine wpl_arr_store info_pk rfl (.tmp 2) (.tmp 87) rfl w.heap.size (pcs pk0) (pcs pk0) LZ LZ (pcs_one _) rfl rfl RR5 ?_))
          refine bodyPost_ret (v := .tuple #[.agg (pcs pk0).toArray, .int .i64 2]) (pk_results Try.results14 pk0_wf rfl rfl (row_written RR5)) rfl ⟨?_, setRow_below B5 (Nat.le_refl _)⟩
          rw [← Hpk.out, ← Her.out, HOK.out, HPK.out]; rfl
        | true =>
          go_wp2_with (first
            | ((refine wpl_pk ?_ (.tmp 5) ?_ gq d.q HFk.out.wf ?_ RB5 ?_); (rfl); (rfl); (rfl))
            | (refine wpl_arr_store info_pk rfl (.tmp 2) (.tmp 88) rfl w.heap.size (pcs d.q) (pcs pk0) LQ LZ (pcs_one _) rfl rfl RR5 ?_))
          refine bodyPost_ret (v := .tuple #[.agg (pcs d.q).toArray, .int .i64 0]) (pk_results Try.results14 HFk.out.wf rfl rfl (row_written RR5)) rfl ⟨?_, setRow_below B5 (Nat.le_refl _)⟩
          rw [← Hpk.out, ← Her.out, HOK.out, HPK.out]; rfl
end Go.Proofs.Ytnfdfnkhjlkdhaa
