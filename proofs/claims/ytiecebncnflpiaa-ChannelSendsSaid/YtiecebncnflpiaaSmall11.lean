/- Blocks of flights, Sends and notes. -/
import Derived.Test.YtiecebncnflpiaaSend11
import Derived.Deep.RegionHeld3
import Derived.Deep.CutRange
namespace Go.Proofs.Ytiecebncnflpiaa
open Go.ChangeShapes Go.WideShapes Go.ChangeAt Go.RowKit Go.Shelf
attribute [-go_sem] run_eql_struct run_neq_struct

abbrev zS : Obj := .cells #[.int .i64 0, .slice none 0 0, .int .i64 0, .int .i64 0] seT
abbrev zF : Obj := .cells #[.int .i64 0, .int .i64 0, .int .i64 0, .int .i64 0, .int .i64 0, .int .i64 0, .int .i64 0] flT
abbrev nO (u v s x : Int) : Obj := .cells #[.int .i64 u, .int .i64 v, .int .i64 s, .int .i64 x] noT
theorem obj_lt {W : World} {g : Nat} {o : Obj} (h : W.heap[g]? = some o) : g < W.heap.size := by
  rcases Nat.lt_or_ge g W.heap.size with h1 | h1
  · exact h1
  · rw [Array.getElem?_eq_none h1] at h; cases h
section
variable {w w1 w2 : World} {g : Nat} {o n : Obj}
theorem c1_1 (hb : Below ((w.alloc n).alloc o).drew.heap.size ((w.alloc n).alloc o).drew w1) : w1.heap[w.heap.size + 1]? = some o := by
  have h := row_kept (w := ((w.alloc n).alloc o).drew) (MapKept.heap_alloc (w.alloc n) o).1 hb (by simp)
  simpa using h
theorem c1_2 {p : Obj} (hb : Below (((w.alloc n).alloc o).alloc p).drew.heap.size (((w.alloc n).alloc o).alloc p).drew w1) : w1.heap[w.heap.size + 1]? = some o ∧ w1.heap[w.heap.size + 1 + 1]? = some p := by
  have h1 := (Below.heap_alloc ((w.alloc n).alloc o) p (w.alloc n).heap.size (by simp)).trans (MapKept.heap_alloc (w.alloc n) o).1
  have h := row_kept (w := (((w.alloc n).alloc o).alloc p).drew) h1 hb (by simp <;> omega)
  have h2 := row_kept (w := (((w.alloc n).alloc o).alloc p).drew) (MapKept.heap_alloc ((w.alloc n).alloc o) p).1 hb (by simp)
  exact ⟨by simpa using h, by simpa using h2⟩
theorem c2_1 (hb : Below (w1.alloc o).heap.size (w1.alloc o) w2) : w2.heap[w1.heap.size]? = some o := row_kept (MapKept.heap_alloc w1 o).1 hb (by simp)
theorem c2_2 {p : Obj} (hb : Below ((w1.alloc o).alloc p).heap.size ((w1.alloc o).alloc p) w2) : w2.heap[w1.heap.size]? = some o ∧ w2.heap[w1.heap.size + 1]? = some p := by
  have h1 := (Below.heap_alloc (w1.alloc o) p w1.heap.size (by simp)).trans (MapKept.heap_alloc w1 o).1
  have h := row_kept h1 hb (by simp <;> omega)
  have h2 := row_kept (MapKept.heap_alloc (w1.alloc o) p).1 hb (by simp)
  exact ⟨h, by simpa using h2⟩
theorem o_0 {p : Obj} (h : w1.heap[g]? = some p) (hb : Below w1.heap.size w1 w2) : w2.heap[g]? = some p := row_kept h hb (obj_lt h)
theorem o_1 {p : Obj} (h : w1.heap[g]? = some p) (hb : Below (w1.alloc o).heap.size (w1.alloc o) w2) : w2.heap[g]? = some p := row_kept ((Below.heap_alloc _ _ _ (obj_lt h)).trans h) hb (by have := obj_lt h; simp; omega)
theorem a_lift {p : Obj} (h : w1.heap[g]? = some o) : (w1.alloc p).heap[g]? = some o := (Below.heap_alloc _ _ _ (obj_lt h)).trans h
theorem a_new (w1 : World) (o : Obj) : (w1.alloc o).heap[w1.heap.size]? = some o := (MapKept.heap_alloc w1 o).1
theorem a_new2 (w1 : World) (o p : Obj) : ((w1.alloc o).alloc p).heap[w1.heap.size + 1]? = some p := by simpa using (MapKept.heap_alloc (w1.alloc o) p).1
end
theorem row_ne {W : World} {a b : Nat} {cs ds : Array Value} {t u : TypeId} (h1 : W.heap[a]? = some (.cells cs t)) (h2 : W.heap[b]? = some (.cells ds u)) (h : u ≠ t) : b ≠ a := fun e => by
  subst e
  rw [h1] at h2
  injection h2 with h2
  injection h2 with _ h3
  exact h h3.symm
abbrev seO (n : Int) (A : Option Addr) (k c : Nat) (ww cc : Int) : Obj := .cells #[.int .i64 n, .slice A k c, .int .i64 ww, .int .i64 cc] seT
abbrev flO (q u v s x a t : Int) : Obj := .cells #[.int .i64 q, .int .i64 u, .int .i64 v, .int .i64 s, .int .i64 x, .int .i64 a, .int .i64 t] flT
theorem Fls.setRow {W : World} {A : Option Addr} {l : List Fl} {g : Nat} {t : TypeId} {cs : Array Value} (h : Fls W A l) (hg : ∀ b off, A = some ⟨b, off, none⟩ → b ≠ g) : Fls (setRow W g t cs) A l := by
  rcases h with h | ⟨b, off, h1, h2, h3⟩
  · exact Or.inl h
  · refine Or.inr ⟨b, off, h1, by rw [setRow_size]; exact h2, fun i hi => ?_⟩
    rw [← h3 i hi]
    simp only [World.cell?, setRow_far (hg b off h1)]
theorem Fls.alloc2 {W : World} {A : Option Addr} {l : List Fl} (h : Fls W A l) (a b : Obj) : Fls ((W.alloc a).alloc b) A l := Nums.alloc (Nums.alloc h a) b
theorem below_alloc2 (W : World) (a b : Obj) : Below W.heap.size W ((W.alloc a).alloc b) := ((Below.refl _ _).alloc (Nat.le_refl _) _).alloc (by simp) _
end Go.Proofs.Ytiecebncnflpiaa
