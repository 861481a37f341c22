/- Bytes of a constant text: the new row is marked behind its last cell, and is xs1 it was. No program in it. -/
import Derived.Test.YtnfdfnkhjlkdhaaArr
import Derived.Test.YtnfdfnkhjlkdhaaParts
namespace Go.Proofs.Ytnfdfnkhjlkdhaa
open Go.ChangeShapes Go.WideShapes Go.ChangeAt Go.RowKit
section
variable {P : Program} {S e : TypeId}
theorem mark_new (hu : P.underlying S = some (.slice e)) (he : P.underlying e = some (.int .u8)) (W : World) (cs : Array Value) (n : Nat) (hn : cs.size = n) :
    (convert S S (.slice (some ⟨W.heap.size, 0, none⟩) n n)).run P (W.alloc (.cells cs e)) = .ok (.slice (some ⟨W.heap.size, 0, none⟩) n n) (W.alloc (.cells cs e (n, n + 1))) := by
  subst hn
  have hh : (W.alloc (.cells cs e)).heap[W.heap.size]? = some (.cells cs e) := (MapKept.heap_alloc W _).1
  have hsh : (W.alloc (.cells cs e)).shape? W.heap.size = some (e, cs.size) := by
    unfold World.shape?
    rw [hh]
  have hfr : (W.alloc (.cells cs e)).freeze ⟨W.heap.size, cs.size, none⟩ 1 = W.alloc (.cells cs e (cs.size, cs.size + 1)) := by
    refine world_eq (fun k => ?_) rfl rfl rfl rfl
    unfold World.freeze
    rw [if_neg (by decide)]
    show ((W.heap.push _).modify W.heap.size _)[k]? = (W.heap.push _)[k]?
    rw [Array.getElem?_modify]
    by_cases h : W.heap.size = k
    · subst h; simp
    · rw [if_neg h, Array.getElem?_push, Array.getElem?_push, if_neg (by omega), if_neg (by omega)]
  simp [convert, run_underlying hu, run_underlying he, markStringish, hsh]
  exact hfr
end
theorem nums_new_marked (W : World) (l : List Int) (t : TypeId) (cs : Array Value) (g : Nat) (m : Nat × Nat) (hg : g = W.heap.size) (hcs : cs = (nrow .u8 l).toArray) : Nums .u8 (W.alloc (.cells cs t m)) (some ⟨g, 0, none⟩) l := by
  subst hcs; subst hg
  refine Or.inr ⟨W.heap.size, 0, rfl, by simp, fun i hi => ?_⟩
  have hh : (W.alloc (.cells (nrow .u8 l).toArray t m)).heap[W.heap.size]? = some (.cells (nrow .u8 l).toArray t m) := (MapKept.heap_alloc W _).1
  have hc := ncs_at .u8 l i hi
  unfold ncs at hc
  unfold World.cell?
  simp only [hh, Nat.zero_add]
  exact hc
theorem row_new {W : World} {cs : Array Value} {t : TypeId} {m : Nat × Nat} : (W.alloc (.cells cs t m)).heap[W.heap.size]? = some (.cells cs t m) := (MapKept.heap_alloc W _).1
theorem parts_one {W : World} {A : Option Addr} {cap n g : Nat} {bs : List Int} {t : TypeId} (hg : g = W.heap.size) (hN : Nums .u8 W A bs) (hn : bs.length = n) (hl : n ≤ cap) (hm : cap ≤ maxLen) : Parts (W.alloc (.cells #[.slice A n cap] t)) (some ⟨g, 0, none⟩) [⟨A, cap, bs⟩] := by
  subst hg; subst hn
  refine parts_of_row (t := t) row_new ?_
  intro p hp
  simp only [List.mem_cons, List.not_mem_nil, or_false] at hp
  subst hp
  exact ⟨hN.alloc _, hl, hm⟩
theorem parts_three {W : World} {A B C : Option Addr} {ca cb cc na nb nc g : Nat} {xs1 bs cs : List Int} {t : TypeId} (hg : g = W.heap.size) (hA : Nums .u8 W A xs1) (ha : xs1.length = na) (hla : na ≤ ca) (hma : ca ≤ maxLen) (hB : Nums .u8 W B bs) (hb : bs.length = nb) (hlb : nb ≤ cb) (hmb : cb ≤ maxLen)
    (hC : Nums .u8 W C cs) (hc : cs.length = nc) (hlc : nc ≤ cc) (hmc : cc ≤ maxLen) : Parts (W.alloc (.cells #[.slice A na ca, .slice B nb cb, .slice C nc cc] t)) (some ⟨g, 0, none⟩) [⟨A, ca, xs1⟩, ⟨B, cb, bs⟩, ⟨C, cc, cs⟩] := by
  subst hg; subst ha; subst hb; subst hc
  refine parts_of_row (t := t) row_new ?_
  intro p hp
  simp only [List.mem_cons, List.not_mem_nil, or_false] at hp
  rcases hp with rfl | rfl | rfl
  · exact ⟨hA.alloc _, hla, hma⟩
  · exact ⟨hB.alloc _, hlb, hmb⟩
  · exact ⟨hC.alloc _, hlc, hmc⟩
theorem parts_four {W : World} {A B C D : Option Addr} {ca cb cc cd na nb nc nd g : Nat} {xs1 bs cs ds : List Int} {t : TypeId} (hg : g = W.heap.size) (hA : Nums .u8 W A xs1) (ha : xs1.length = na) (hla : na ≤ ca) (hma : ca ≤ maxLen) (hB : Nums .u8 W B bs) (hb : bs.length = nb) (hlb : nb ≤ cb) (hmb : cb ≤ maxLen)
    (hC : Nums .u8 W C cs) (hc : cs.length = nc) (hlc : nc ≤ cc) (hmc : cc ≤ maxLen) (hD : Nums .u8 W D ds) (hd : ds.length = nd) (hld : nd ≤ cd) (hmd : cd ≤ maxLen) : Parts (W.alloc (.cells #[.slice A na ca, .slice B nb cb, .slice C nc cc, .slice D nd cd] t)) (some ⟨g, 0, none⟩) [⟨A, ca, xs1⟩, ⟨B, cb, bs⟩, ⟨C, cc, cs⟩, ⟨D, cd, ds⟩] := by
  subst hg; subst ha; subst hb; subst hc; subst hd
  refine parts_of_row (t := t) row_new ?_
  intro p hp
  simp only [List.mem_cons, List.not_mem_nil, or_false] at hp
  rcases hp with rfl | rfl | rfl | rfl
  · exact ⟨hA.alloc _, hla, hma⟩
  · exact ⟨hB.alloc _, hlb, hmb⟩
  · exact ⟨hC.alloc _, hlc, hmc⟩
  · exact ⟨hD.alloc _, hld, hmd⟩
theorem parts_two {W : World} {A B : Option Addr} {ca cb na nb g : Nat} {xs1 bs : List Int} {t : TypeId} (hg : g = W.heap.size) (hA : Nums .u8 W A xs1) (ha : xs1.length = na) (hla : na ≤ ca) (hma : ca ≤ maxLen) (hB : Nums .u8 W B bs) (hb : bs.length = nb) (hlb : nb ≤ cb) (hmb : cb ≤ maxLen) :
    Parts (W.alloc (.cells #[.slice A na ca, .slice B nb cb] t)) (some ⟨g, 0, none⟩) [⟨A, ca, xs1⟩, ⟨B, cb, bs⟩] := by
  subst hg; subst ha; subst hb
  refine parts_of_row (t := t) row_new ?_
  intro p hp
  simp only [List.mem_cons, List.not_mem_nil, or_false] at hp
  rcases hp with rfl | rfl
  · exact ⟨hA.alloc _, hla, hma⟩
  · exact ⟨hB.alloc _, hlb, hmb⟩
theorem parts_nil (W : World) (A : Option Addr) : Parts W A [] := Or.inl rfl
end Go.Proofs.Ytnfdfnkhjlkdhaa
