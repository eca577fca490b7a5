/-
  Words that several statements over package sha share: a Hash that stays, comparisons of known lengths, new rows, the digest of parts in a new row.
-/
import Derived.Test.YtpdkpadpdkagoaaDoorSha9
import Derived.Test.YtpdkpadpdkagoaaDoorSame
import Derived.Lib.SlBytesConst
namespace Go.Proofs.YtpdkpadpdkagoaaDoor
open Go.RowKit
set_option linter.unusedVariables false
set_option linter.unusedSimpArgs false

theorem HashIs.keep {w w' : World} {g : Nat} {all : List UInt8} (h : HashIs w g all) (hk : w'.heap[g]? = w.heap[g]?) : HashIs w' g all := by
  obtain ⟨s, rest, h1, h2⟩ := h
  exact ⟨s, rest, hk.trans h1, h2⟩
theorem HashIs.lt {w : World} {g : Nat} {all : List UInt8} (h : HashIs w g all) : g < w.heap.size := by
  obtain ⟨s, rest, h1, _⟩ := h
  exact block_lt h1
theorem Same_32 (A : Option Addr) (xs : List UInt8) (c : Nat) (A' : Option Addr) (ys : List UInt8) (c' : Nat) (w : World) (B B' n : Nat) (hA : Lie w B A (bvs xs)) (hA' : Lie w B' A' (bvs ys)) (hx : xs.length = n) (hy : ys.length = n) (hn : n ≤ 140737488355328) :
    Calls Tryd.prog 7 #[.slice A n c, .slice A' n c'] w fun e w' => e = .returned (.bool (xs == ys)) ∧ ∃ n, w' = w.drewN n := by
  subst hx
  have h := Same_any A xs c A' ys c' w B B' hA hA' hn
  rw [hy] at h
  exact h
theorem Rows2'.more {w : World} {B B' : Nat} {A : Option Addr} {ls : List (List UInt8)} (h : Rows2' w B A ls) (hB : B ≤ B') : Rows2' w B' A ls := by
  obtain ⟨vs, hl, hv, he⟩ := h
  refine ⟨vs, hl, hv.more hB, fun j x hx => ?_⟩
  obtain ⟨A', c, h1, h2⟩ := he j x hx
  exact ⟨A', c, h1, h2.more hB⟩
theorem lie_block {w : World} {b : Nat} {xs : List UInt8} {t : TypeId} (h : w.heap[b]? = some (.cells (byA xs) t (0, 0))) : Lie w w.heap.size (some ⟨b, 0, none⟩) (bvs xs) := fun _ =>
  ⟨b, 0, rfl, block_lt h, fun j u hu => by rw [Nat.zero_add]; exact cell_of h j u (by rw [byA, List.getElem?_toArray]; exact hu)⟩
theorem Below.drewN' {B : Nat} {a w : World} (h : Below B a w) (n : Nat) : Below B a (w.drewN n) := ⟨h.os, h.tape, h.output, h.size, h.block⟩

theorem empty_row (W : World) (e : TypeId) {k base : Nat} (h : W.heap.size = k) (hb : base ≤ k) : (W.alloc (.cells #[] e)).ownsRow base e 1 (.slice (some ⟨k, 0, none⟩) 0 0) 0 [] := by
  subst h
  exact World.ownsRow_lit W #[] 0 hb (by simp) rfl
/-- A new row of byte slices. -/
theorem rows_new (w : World) (l : List (Option Addr × List UInt8 × Nat)) (h : ∀ p ∈ l, Sq w w.heap.size p.1 p.2.2 (bvs p.2.1)) (t : TypeId) :
    Rows2' (w.alloc (.cells (l.map fun p => Value.slice p.1 p.2.1.length p.2.2).toArray t)) (w.heap.size + 1) (some ⟨w.heap.size, 0, none⟩) (l.map fun p => p.2.1) := by
  refine ⟨l.map fun p => Value.slice p.1 p.2.1.length p.2.2, by simp, ?_, fun j x hx => ?_⟩
  · have := Lie.newA w (l.map fun p => Value.slice p.1 p.2.1.length p.2.2).toArray t
    simpa using this
  · rw [List.getElem?_map] at hx
    obtain ⟨p, hp, rfl⟩ := Option.map_eq_some_iff.1 hx
    refine ⟨p.1, p.2.2, by simp [hp], ((h p (List.mem_of_getElem? hp)).alloc (Nat.le_refl _) _).more (by omega)⟩
theorem own_dg {w : World} {B : Nat} {v : Value} {xs : List UInt8} (h : OwnB w B v xs) : ∃ A c, v = .slice A xs.length c ∧ Sq w w.heap.size A c (bvs xs) ∧ (∀ b o sp, A = some ⟨b, o, sp⟩ → B ≤ b ∧ b < w.heap.size) := by
  rcases h.2 with ⟨rfl, h0⟩ | ⟨g, cap, cur, rfl, hb, hg, h1, h2, h3, h4⟩
  · obtain ⟨A, c, he, hS⟩ := own_sl h
    exact ⟨A, c, he, hS.sq, fun b o sp e => by rw [e] at he; simp at he⟩
  · obtain ⟨A, c, he, hS⟩ := own_sl h
    refine ⟨A, c, he, hS.sq, fun b o sp e => ?_⟩
    rw [e] at he
    simp only [Value.slice.injEq, Option.some.injEq, Addr.mk.injEq] at he
    exact ⟨by rw [← he.1.1]; exact hb, by rw [← he.1.1]; exact block_lt hg⟩

/-- The digest of parts that stand in a new row. -/
theorem ofs_any (l : List (Option Addr × List UInt8 × Nat)) (w : World) (h : ∀ p ∈ l, Sq w w.heap.size p.1 p.2.2 (bvs p.2.1)) (hG : Glob w) (hn : (l.map fun p => p.2.1).flatten.length ≤ 1152921504606846976) (hl : l.length ≤ 9223372036854775807) :
    Calls Tryd.prog 24 #[.slice (some ⟨w.heap.size, 0, none⟩) l.length l.length] (w.alloc (.cells (l.map fun p => Value.slice p.1 p.2.1.length p.2.2).toArray 22)) (fun e W' => ∃ b, e = .returned (.slice (some ⟨b, 0, none⟩) 32 32) ∧ W'.heap[b]? = some (.cells (byA (shaB (l.map fun p => p.2.1).flatten)) A32 (0, 0)) ∧ w.heap.size < b ∧ Below w.heap.size w W') := by
  have hr := rows_new w l h 22
  have hb : Below w.heap.size w (w.alloc (.cells (l.map fun p => Value.slice p.1 p.2.1.length p.2.2).toArray 22)) := (Below.refl _ _).alloc (Nat.le_refl _) _
  have h1 := Of_any (some ⟨w.heap.size, 0, none⟩) (l.map fun p => p.2.1) l.length (w.alloc (.cells (l.map fun p => Value.slice p.1 p.2.1.length p.2.2).toArray 22)) (by simpa using hr) (hG.below hb (Nat.le_refl _)) hn (by simpa using hl)
  rw [List.length_map] at h1
  exact h1.mono fun e W' ⟨v, he, ⟨b, hv, hbk, hbz, _⟩, hB⟩ => ⟨b, by rw [he, hv], hbk, by rw [World.size_alloc] at hbz; omega, hb.trans (hB.mono (by simp))⟩

theorem lie_marked (w : World) (C : Array Value) (i j : Nat) : Lie (w.alloc (.cells C 5 (i, j))) (w.alloc (.cells C 5 (i, j))).heap.size (some ⟨w.heap.size, 0, none⟩) C.toList := fun _ =>
  ⟨w.heap.size, 0, rfl, by simp, fun k u hu => by
    rw [Nat.zero_add, cell_of_row _ w.heap.size k C _ (i, j) (heap_alloc_new w _)]
    simpa using hu⟩
theorem Rows2'.none (w : World) (B : Nat) : Rows2' w B none [] := ⟨[], rfl, Lie.nil, fun j x h => by simp at h⟩
end Go.Proofs.YtpdkpadpdkagoaaDoor
