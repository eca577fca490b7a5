/-
  Texts of this claim in one file: Mk4.
-/
import Derived.Test.YthooibljnfnnhaaPk28
section
namespace Go.Proofs.Ythooibljnfnnhaa
open Go Go.RowKit
set_option linter.unusedVariables false
set_option linter.unusedSimpArgs false
section
variable {P : Program} {md : Region.Mode} {ops : Array Oper} {Q : Exit → Act → World → Prop} {n : Nat} {L : Array Bool → Act → World → Prop}
/-- How many are left. -/
def lft (f : Option Nat) : Nat := match f with | none => 1 | some _ => 0
def left4 (f0 f1 f2 f3 : Option Nat) : Nat := lft f0 + lft f1 + lft f2 + lft f3
/-- A row that has been made lies there. -/
def MadeAt (W : World) (f : Option Nat) (o : Obj) : Prop := ∀ p, f = some p → W.heap[p]? = some o
theorem MadeAt.on {W W' : World} {f : Option Nat} {o : Obj} (h : MadeAt W f o) (hb : Below W.heap.size W W') : MadeAt W' f o := fun p hp => by
  have h1 := h p hp
  have hlt : p < W.heap.size := (Array.getElem?_eq_some_iff.1 h1).1
  exact (hb.block p hlt).trans h1
def rdy4 (b0 b1 b2 b3 : Bool) : List Nat := (if b0 then [] else [0]) ++ (if b1 then [] else [1]) ++ (if b2 then [] else [2]) ++ (if b3 then [] else [3])
theorem wpGr_mk4 (O : Nat → Obj) (V : Nat → Nat → Value) (D : Nat → Option Tmp) (Ls : Bool → Bool → Bool → Bool → Array Bool) (Fr : Option Nat → Option Nat → Option Nat → Option Nat → Act) (w0 : World) (hn : 4 ≤ n)
    (hmk : ∀ (i : Nat) (a : Act) (w : World) (K : Act → World → Prop), i < 4 → K (a.put (D i) (V i w.heap.size)) (w.alloc (O i)) → wpOp P ops Q i K a w)
    (hrd : ∀ b0 b1 b2 b3, (b0 && b1 && b2 && b3) = false → Region.ready md ops (Ls b0 b1 b2 b3) = rdy4 b0 b1 b2 b3)
    (hl0 : ∀ b0 b1 b2 b3, (Ls b0 b1 b2 b3).setIfInBounds 0 true = Ls true b1 b2 b3)
    (hf0 : ∀ f0 f1 f2 f3 p, (Fr f0 f1 f2 f3).put (D 0) (V 0 p) = Fr (some p) f1 f2 f3)
    (hl1 : ∀ b0 b1 b2 b3, (Ls b0 b1 b2 b3).setIfInBounds 1 true = Ls b0 true b2 b3)
    (hf1 : ∀ f0 f1 f2 f3 p, (Fr f0 f1 f2 f3).put (D 1) (V 1 p) = Fr f0 (some p) f2 f3)
    (hl2 : ∀ b0 b1 b2 b3, (Ls b0 b1 b2 b3).setIfInBounds 2 true = Ls b0 b1 true b3)
    (hf2 : ∀ f0 f1 f2 f3 p, (Fr f0 f1 f2 f3).put (D 2) (V 2 p) = Fr f0 f1 (some p) f3)
    (hl3 : ∀ b0 b1 b2 b3, (Ls b0 b1 b2 b3).setIfInBounds 3 true = Ls b0 b1 b2 true)
    (hf3 : ∀ f0 f1 f2 f3 p, (Fr f0 f1 f2 f3).put (D 3) (V 3 p) = Fr f0 f1 f2 (some p))
    (fin : ∀ p0 p1 p2 p3 W, Below w0.heap.size w0 W → W.heap[p0]? = some (O 0) → W.heap[p1]? = some (O 1) → W.heap[p2]? = some (O 2) → W.heap[p3]? = some (O 3) → L (Ls true true true true) (Fr (some p0) (some p1) (some p2) (some p3)) W) :
    ∀ (m : Nat) (f0 f1 f2 f3 : Option Nat) (W : World), left4 f0 f1 f2 f3 = m → Below w0.heap.size w0 W → MadeAt W f0 (O 0) → MadeAt W f1 (O 1) → MadeAt W f2 (O 2) → MadeAt W f3 (O 3) →
      wpGr P md ops Q n L m (Ls f0.isSome f1.isSome f2.isSome f3.isSome) (Fr f0 f1 f2 f3) W := by
  intro m
  induction m with
  | zero =>
    intro f0 f1 f2 f3 W hm hb h0 h1 h2 h3
    unfold left4 at hm
    obtain ⟨p0, rfl⟩ : ∃ p, f0 = some p := by cases f0 with | none => (simp [lft] at hm; try omega) | some p => exact ⟨p, rfl⟩
    obtain ⟨p1, rfl⟩ : ∃ p, f1 = some p := by cases f1 with | none => (simp [lft] at hm; try omega) | some p => exact ⟨p, rfl⟩
    obtain ⟨p2, rfl⟩ : ∃ p, f2 = some p := by cases f2 with | none => (simp [lft] at hm; try omega) | some p => exact ⟨p, rfl⟩
    obtain ⟨p3, rfl⟩ : ∃ p, f3 = some p := by cases f3 with | none => (simp [lft] at hm; try omega) | some p => exact ⟨p, rfl⟩
    exact fin p0 p1 p2 p3 W hb (h0 _ rfl) (h1 _ rfl) (h2 _ rfl) (h3 _ rfl)
  | succ m ih =>
    intro f0 f1 f2 f3 W hm hb h0 h1 h2 h3
    have hr := hrd f0.isSome f1.isSome f2.isSome f3.isSome (by
      unfold left4 lft at hm
      cases f0 <;> cases f1 <;> cases f2 <;> cases f3 <;> simp at hm ⊢)
    refine wpGr_ready hr ?_ ?_ fun i hi => ?_
    · unfold left4 lft at hm
      unfold rdy4
      cases f0 <;> cases f1 <;> cases f2 <;> cases f3 <;> simp at hm ⊢
    · rw [List.all_eq_true]
      intro i hi
      have : i < 4 := by
        unfold rdy4 at hi
        cases f0 <;> cases f1 <;> cases f2 <;> cases f3 <;> simp at hi <;> omega
      exact decide_eq_true (by omega)
    · have hcase : (i = 0 ∧ f0 = none) ∨ (i = 1 ∧ f1 = none) ∨ (i = 2 ∧ f2 = none) ∨ (i = 3 ∧ f3 = none) := by
        unfold rdy4 at hi
        cases f0 <;> cases f1 <;> cases f2 <;> cases f3 <;> simp at hi <;> simp <;> omega
      rcases hcase with ⟨rfl, rfl⟩ | ⟨rfl, rfl⟩ | ⟨rfl, rfl⟩ | ⟨rfl, rfl⟩
      · refine hmk 0 _ _ _ (by decide) ⟨(Below.refl _ _).alloc (Nat.le_refl _) _, fun w'' hw => ?_⟩
        have hbw : Below W.heap.size W w'' := (((Below.refl _ _).alloc (Nat.le_refl _) (O 0)).trans (hw.mono (by simp)))
        have hn0 : MadeAt w'' (some W.heap.size) (O 0) := fun p hp => by
          cases hp
          exact (hw.block _ (by simp)).trans (heap_alloc_new W (O 0))
        have h := ih (some W.heap.size) f1 f2 f3 w'' (by have e1 : lft (none : Option Nat) = 1 := rfl; have e2 : lft (some W.heap.size) = 0 := rfl; unfold left4 at hm ⊢; omega) (hb.trans (hbw.mono hb.size)) (hn0) (h1.on hbw) (h2.on hbw) (h3.on hbw)
        rw [hl0, hf0]
        exact h
      · refine hmk 1 _ _ _ (by decide) ⟨(Below.refl _ _).alloc (Nat.le_refl _) _, fun w'' hw => ?_⟩
        have hbw : Below W.heap.size W w'' := (((Below.refl _ _).alloc (Nat.le_refl _) (O 1)).trans (hw.mono (by simp)))
        have hn1 : MadeAt w'' (some W.heap.size) (O 1) := fun p hp => by
          cases hp
          exact (hw.block _ (by simp)).trans (heap_alloc_new W (O 1))
        have h := ih f0 (some W.heap.size) f2 f3 w'' (by have e1 : lft (none : Option Nat) = 1 := rfl; have e2 : lft (some W.heap.size) = 0 := rfl; unfold left4 at hm ⊢; omega) (hb.trans (hbw.mono hb.size)) (h0.on hbw) (hn1) (h2.on hbw) (h3.on hbw)
        rw [hl1, hf1]
        exact h
      · refine hmk 2 _ _ _ (by decide) ⟨(Below.refl _ _).alloc (Nat.le_refl _) _, fun w'' hw => ?_⟩
        have hbw : Below W.heap.size W w'' := (((Below.refl _ _).alloc (Nat.le_refl _) (O 2)).trans (hw.mono (by simp)))
        have hn2 : MadeAt w'' (some W.heap.size) (O 2) := fun p hp => by
          cases hp
          exact (hw.block _ (by simp)).trans (heap_alloc_new W (O 2))
        have h := ih f0 f1 (some W.heap.size) f3 w'' (by have e1 : lft (none : Option Nat) = 1 := rfl; have e2 : lft (some W.heap.size) = 0 := rfl; unfold left4 at hm ⊢; omega) (hb.trans (hbw.mono hb.size)) (h0.on hbw) (h1.on hbw) (hn2) (h3.on hbw)
        rw [hl2, hf2]
        exact h
      · refine hmk 3 _ _ _ (by decide) ⟨(Below.refl _ _).alloc (Nat.le_refl _) _, fun w'' hw => ?_⟩
        have hbw : Below W.heap.size W w'' := (((Below.refl _ _).alloc (Nat.le_refl _) (O 3)).trans (hw.mono (by simp)))
        have hn3 : MadeAt w'' (some W.heap.size) (O 3) := fun p hp => by
          cases hp
          exact (hw.block _ (by simp)).trans (heap_alloc_new W (O 3))
        have h := ih f0 f1 f2 (some W.heap.size) w'' (by have e1 : lft (none : Option Nat) = 1 := rfl; have e2 : lft (some W.heap.size) = 0 := rfl; unfold left4 at hm ⊢; omega) (hb.trans (hbw.mono hb.size)) (h0.on hbw) (h1.on hbw) (h2.on hbw) (hn3)
        rw [hl3, hf3]
        exact h
end
end Go.Proofs.Ythooibljnfnnhaa
end
