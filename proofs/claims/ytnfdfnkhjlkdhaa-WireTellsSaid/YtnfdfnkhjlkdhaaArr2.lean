/- An array that is stored whole in a region that draws its order. No program in it. -/
import Derived.Test.YtnfdfnkhjlkdhaaArr
import Derived.Deep.RegionHeld3
namespace Go.Proofs.Ytnfdfnkhjlkdhaa
open Go.ChangeShapes Go.WideShapes Go.ChangeAt Go.RowKit
theorem heap_setCells {b k : Nat} (hk : k ≠ b) : ∀ (vs : List Value) (o : Nat) (W : World), (W.setCells b o vs).heap[k]? = W.heap[k]?
  | [], _, _ => rfl
  | v :: r, o, W => by
    rw [World.setCells, heap_setCells hk r (o + 1)]
    exact Below.heap_setCell _ _ _ _ hk
theorem below_setCells {B b : Nat} {w : World} (hb : B ≤ b) : ∀ (vs : List Value) (o : Nat) (W : World), Below B w W → Below B w (W.setCells b o vs)
  | [], _, _, h => h
  | v :: r, o, W, h => by
    rw [World.setCells]
    exact below_setCells hb r (o + 1) _ (below_set h hb)
theorem size_setCells {b : Nat} : ∀ (vs : List Value) (o : Nat) (W : World), (W.setCells b o vs).heap.size = W.heap.size
  | [], _, _ => rfl
  | v :: r, o, W => by
    rw [World.setCells, size_setCells r (o + 1)]
    simp
theorem there_row {W : World} {g n : Nat} {t : TypeId} {L : List Value} (h : W.heap[g]? = some (.cells L.toArray t)) (hL : L.length = n) : W.there g 0 n := fun j hj => by
  simp only [Nat.zero_add]
  refine ⟨?_, frozen_row h j⟩
  rw [cell_of_row _ _ _ _ _ _ h, List.getElem?_toArray, List.getElem?_eq_getElem (by omega)]
  rfl
theorem setCells_arr {P : Program} {T : TypeId} {n : Nat} (hi : (P.info? T).map (·.size) = some n) {W : World} {g : Nat} {L M : List Value} (hL : L.length = n) (hM : M.length = n) (h1 : ∀ v ∈ L, v.oneCell' = true) (h : W.heap[g]? = some (.cells M.toArray T)) : W.setCells g 0 L = setRow W g T L.toArray := by
  have a := run_storeVar_mid (P := P) W g 0 T L.toArray (by rw [List.size_toArray, hL]; exact there_row h hM) (by rw [hi, List.size_toArray, hL]) (all_one h1)
  have b := run_storeVar_row (P := P) W g T T M.toArray L.toArray h (by rw [hi]; simp [hL]) (by simp [hL, hM]) (all_one h1)
  rw [setRow_eq h] at b
  rw [a] at b
  have := (Result.ok.inj b).2
  simpa using this
end Go.Proofs.Ytnfdfnkhjlkdhaa
