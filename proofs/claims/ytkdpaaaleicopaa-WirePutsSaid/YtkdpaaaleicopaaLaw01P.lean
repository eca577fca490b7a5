/-
  The statement WirePuts: the document's bytes of an item.
-/
import Derived.Test.YtkdpaaaleicopaaLaw01c
import Derived.Test.YtkdpaaaleicopaaRef01
namespace Go.Proofs.Ytkdpaaaleicopaa
open Go.RowKit
set_option linter.unusedVariables false
set_option linter.unusedSimpArgs false

/-- What the document's Put answers, behind a name. -/
def RefPost (w : World) (xs : List UInt8) (r : Ending) (w' : World) : Prop :=
  ∃ A c, r = .returned (.slice A xs.length c) ∧ Lie w' w'.heap.size A (bvs xs) ∧ w.grownBy w' none

set_option maxHeartbeats 3200000 in
theorem RefPut_any (x : It) (A1 : Option Addr) (c1 : Nat) (A2 : Option Addr) (c2 : Nat) (w : World)
    (h1 : Lie w w.heap.size A1 (bvs x.v)) (h2 : Rows2 w w.heap.size A2 x.l) (hf : farIt x = false) (hs : x.kind = 0 → 0 ≤ x.size ∧ x.size ≤ 8) (hn : x.n < 18446744073709551616) :
    Calls Try.prog 9 #[itV x A1 c1 A2 c2] w (RefPost w (putB x)) := by
  obtain ⟨kind, size, n, v, l⟩ := x
  simp only [farIt, farHead, Bool.or_eq_false_iff, decide_eq_false_iff_not] at hf hs hn h1 h2
  obtain ⟨⟨⟨⟨k0, k4⟩, hv⟩, hl⟩, hll⟩ := hf
  have ht := total_bound l hll (by omega)
  have H1 := hid h1; have H2 := hid h2
  clear hll h1 h2
  simp only [itV]
  have HG := hid (fun cs : Array Value => World.grownBy_alloc w (.cells cs 29) none)
  have hFin : ∀ (w1 w2 : World) (v : Value) (xs : List UInt8), w.grownBy w1 none → OwnB w2 w1.heap.size v xs → w1.grownBy w2 none → ∃ A c, v = .slice A xs.length c ∧ Lie w2 w2.heap.size A (bvs xs) ∧ w.grownBy w2 none := by
    intro w1 w2 v xs hg ho hg2
    obtain ⟨A, c, rfl, hS⟩ := own_sl ho
    exact ⟨A, c, rfl, hS.lie, grown_step hg (.inl rfl) hg2⟩
  have HF := hid hFin
  clear hFin
  have k5 : kind = 0 ∨ kind = 1 ∨ kind = 2 ∨ kind = 3 ∨ kind = 4 := by omega
  rcases k5 with rfl | rfl | rfl | rfl | rfl
  · have hp : Hid (putB ⟨0, size, n, v, l⟩ = beBytes size.toNat n) := hid (by simp [putB])
    have hs' := hs rfl
    obtain ⟨s, rfl⟩ : ∃ s : Nat, size = (s : Int) := ⟨size.toNat, by omega⟩
    rw [hp.out, Int.toNat_natCast]
    clear hs hp
    go_enter Try.func9, Try.ntmps9
    go_wp2_with fail
    refine (RefNum_any s n _ (by omega) hn).mono ?_
    rintro e w1 ⟨v1, rfl, ho, hg⟩
    obtain ⟨A, c, rfl, hL, hG⟩ := HF.out _ _ _ _ (HG.out _) ho hg
    clear ho hg
    go_wp2
    go_ret
    exact ⟨A, c, by rw [beBytes_length]; rfl, hL, hG⟩
  · have hp : Hid (putB ⟨1, size, n, v, l⟩ = vecBytes v) := hid (by simp [putB])
    rw [hp.out]
    clear hs hp
    go_enter Try.func9, Try.ntmps9
    go_wp2_with fail
    refine (RefVec_any A1 v c1 _ (by omega) ((H1.out.alloc (Nat.le_refl _) _).more (by simp))).mono ?_
    rintro e w1 ⟨v1, rfl, ho, hg⟩
    obtain ⟨A, c, rfl, hL, hG⟩ := HF.out _ _ _ _ (HG.out _) ho hg
    clear ho hg
    go_wp2
    go_ret
    exact ⟨A, c, rfl, hL, hG⟩
  · have hp : Hid (putB ⟨2, size, n, v, l⟩ = vecBytes (joinVecs l)) := hid (by simp [putB])
    rw [hp.out]
    clear hs hp
    go_enter Try.func9, Try.ntmps9
    go_wp2_with fail
    refine (RefList_any A2 l c2 _ ((H2.out.below (below_of_grown (HG.out _) (Nat.le_refl _) (fun _ h => by cases h))).more (by simp)) (by omega) (by omega)).mono ?_
    rintro e w1 ⟨v1, rfl, ho, hg⟩
    obtain ⟨A, c, rfl, hL, hG⟩ := HF.out _ _ _ _ (HG.out _) ho hg
    clear ho hg
    go_wp2
    go_ret
    exact ⟨A, c, rfl, hL, hG⟩
  · by_cases hn0 : 0 < n
    · have hp : Hid (putB ⟨3, size, n, v, l⟩ = [1]) := hid (by simp [putB, hn0, beBytes])
      rw [hp.out]
      clear hs hp
      go_enter Try.func9, Try.ntmps9
      go_wp2
      go_ret
      refine ⟨some ⟨w.heap.size + 1, 0, none⟩, 1, rfl, ?_, grown_alloc (HG.out _) _⟩
      have h := Lie.newA (w.alloc (.cells #[.int .i64 3, .int .i64 size, .int .u64 (n : Int), .slice A1 v.length c1, .slice A2 l.length c2] 29)) #[.int .u8 1] 5
      simp only [World.size_alloc] at h
      exact h.more (by simp)
    · have hp : Hid (putB ⟨3, size, n, v, l⟩ = [0]) := hid (by simp [putB, hn0, beBytes])
      rw [hp.out]
      clear hs hp
      go_enter Try.func9, Try.ntmps9
      go_wp2
      go_ret
      refine ⟨some ⟨w.heap.size + 1, 0, none⟩, 1, rfl, ?_, grown_alloc (HG.out _) _⟩
      have h := Lie.newA (w.alloc (.cells #[.int .i64 3, .int .i64 size, .int .u64 (n : Int), .slice A1 v.length c1, .slice A2 l.length c2] 29)) #[.int .u8 0] 5
      simp only [World.size_alloc] at h
      exact h.more (by simp)
  · have hp : Hid (putB ⟨4, size, n, v, l⟩ = v) := hid (by simp [putB])
    rw [hp.out]
    clear hs hp
    go_enter Try.func9, Try.ntmps9
    go_wp2
    go_ret
    exact ⟨A1, c1, rfl, (H1.out.alloc (Nat.le_refl _) _).more (by simp), HG.out _⟩

/-- PutNum of a size that can't be: the bytes ahead alone. -/
theorem PutNum_bad (A : Option Addr) (xs : List UInt8) (c : Nat) (size n : Int) (w : World) (hs : ¬ (size = 1 ∨ size = 2 ∨ size = 4 ∨ size = 8)) (hA : Lie w w.heap.size A (bvs xs)) (hb : xs.length ≤ 140737488355328) :
    Calls Try.prog 24 #[.slice A xs.length c, .int .i64 size, .int .u64 n] w fun e w' => ∃ v, e = .returned v ∧ OwnB w' w.heap.size v xs ∧ Below w.heap.size w w' := by
  go_enter Try.func24, Try.ntmps24
  go_wp2_with fail
  refine (isNumSize_no _ _ hs).mono ?_
  rintro e w' ⟨rfl, rfl⟩
  go_wp2_with fail
  refine (clone_any A xs c _ _ hA hb).mono ?_
  rintro e w1 ⟨v1, rfl, ho, hg⟩
  go_wp2
  go_ret
  exact ⟨v1, rfl, ho, below_of_grown hg (Nat.le_refl _) (fun _ h => by cases h)⟩

/-- An item of the sizes that the law hands on: 0 for one that can't be. -/
theorem put_zero (A : Option Addr) (xs : List UInt8) (c : Nat) (n : Nat) (v : List UInt8) (l : List (List UInt8)) (A1 : Option Addr) (c1 : Nat) (A2 : Option Addr) (c2 : Nat) (w : World) (hA : Lie w w.heap.size A (bvs xs)) (hb : xs.length ≤ 1048576) :
    Calls Try.prog 8 #[.slice A xs.length c, itV ⟨0, 0, n, v, l⟩ A1 c1 A2 c2] w fun e w' => ∃ u, e = .returned u ∧ OwnB w' w.heap.size u (xs ++ putB ⟨0, 0, n, v, l⟩) ∧ Below w.heap.size w w' := by
  have hp : Hid (xs ++ putB ⟨0, 0, n, v, l⟩ = xs) := hid (by simp [putB, beBytes])
  have hG : Hid (∀ cs : Array Value, Below w.heap.size w (w.alloc (.cells cs 29))) := hid (fun cs => (Below.refl _ _).alloc (Nat.le_refl _) _)
  rw [hp.out]
  simp only [itV]
  clear hp
  have HA := hid hA
  clear hA
  go_enter Try.func8, Try.ntmps8
  go_wp2_with fail
  refine (PutNum_bad A xs c 0 (n : Int) _ (by omega) ((HA.out.alloc (Nat.le_refl _) _).more (by simp)) (by omega)).mono ?_
  rintro e w1 ⟨v1, rfl, ho, hbl⟩
  go_wp2
  go_ret
  exact ⟨v1, rfl, own_base ho (by simp), (hG.out _).trans (hbl.mono (by simp))⟩

def fixIt (x : It) : It := if x.kind = 0 ∧ ¬ (x.size = 1 ∨ x.size = 2 ∨ x.size = 4 ∨ x.size = 8) then ⟨0, 0, x.n, x.v, x.l⟩ else x

theorem put_fixed (A : Option Addr) (xs : List UInt8) (c : Nat) (x : It) (A1 : Option Addr) (c1 : Nat) (A2 : Option Addr) (c2 : Nat) (w : World) (hA : Lie w w.heap.size A (bvs xs)) (hb : xs.length ≤ 1048576)
    (h1 : Lie w w.heap.size A1 (bvs x.v)) (h2 : Rows2 w w.heap.size A2 x.l) (hf : farIt x = false) (hn : x.n < 18446744073709551616) :
    Calls Try.prog 8 #[.slice A xs.length c, itV (fixIt x) A1 c1 A2 c2] w fun e w' => ∃ v, e = .returned v ∧ OwnB w' w.heap.size v (xs ++ putB (fixIt x)) ∧ Below w.heap.size w w' := by
  unfold fixIt
  by_cases h : x.kind = 0 ∧ ¬ (x.size = 1 ∨ x.size = 2 ∨ x.size = 4 ∨ x.size = 8)
  · rw [if_pos h]
    exact put_zero A xs c x.n x.v x.l A1 c1 A2 c2 w hA hb
  · rw [if_neg h]
    exact put_any A xs c x A1 c1 A2 c2 w hA hb h1 h2 hf (fun h0 => Classical.byContradiction fun h' => h ⟨h0, h'⟩) hn
end Go.Proofs.Ytkdpaaaleicopaa
