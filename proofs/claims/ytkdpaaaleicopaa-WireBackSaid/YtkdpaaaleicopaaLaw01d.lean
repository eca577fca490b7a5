/-
  The statements of layer 1: an item taken.
-/
import Derived.Test.YtkdpaaaleicopaaLaw01c
namespace Go.Proofs.Ytkdpaaaleicopaa
open Go.RowKit
set_option linter.unusedVariables false
set_option linter.unusedSimpArgs false

theorem Rd.alloc {w : World} {g e : Nat} {xs : List UInt8} (h : Rd w g xs e) (o : Obj) : Rd (w.alloc o) g xs e := h.grown (World.grownBy_alloc w o none) (fun _ h => by cases h)
theorem Rd.setCell {w : World} {g e : Nat} {xs : List UInt8} (h : Rd w g xs e) {p : Addr} (hp : g < p.block) (u : Value) : Rd (w.setCell p u) g xs e :=
  h.grown (row := some p.block) (by obtain ⟨b, i, sp⟩ := p; exact grown_setCell w b i sp u) (fun k hk => by injection hk with hk; omega)
theorem blk_alloc {w : World} {k : Nat} {cs : Array Value} {t : TypeId} (h : w.heap[k]? = some (.cells cs t (0, 0))) (o : Obj) : (w.alloc o).heap[k]? = some (.cells cs t (0, 0)) := block_grown h (World.grownBy_alloc w o none) (by simp)
theorem blk_new {w : World} {k : Nat} (hk : w.heap.size = k) (cs : Array Value) (t : TypeId) : (w.alloc (.cells cs t)).heap[k]? = some (.cells cs t (0, 0)) := by subst hk; exact heap_alloc_new w _

theorem OwnB.kept {w w' : World} {B : Nat} {v : Value} {xs : List UInt8} {row : Option Nat} (h : OwnB w B v xs) (hg : w.grownBy w' row) (hr : ∀ k, row = some k → k < B) : OwnB w' B v xs := by
  refine World.ownsRow.kept h hg ?_
  rcases hb : v.ownBlock with _ | k
  · exact .inl rfl
  · exact .inr fun e => by have := (h.lt k hb).1; have := hr k e.symm; omega

/-- The five cells of a result that is stored. -/
def set5 (w : World) (k : Nat) (u0 u1 u2 u3 u4 : Value) : World :=
  ((((w.setCell ⟨k, 0, none⟩ u0).setCell ⟨k, 1, none⟩ u1).setCell ⟨k, 2, none⟩ u2).setCell ⟨k, 3, none⟩ u3).setCell ⟨k, 4, none⟩ u4
theorem set5_grown (w : World) (k : Nat) (u0 u1 u2 u3 u4 : Value) : w.grownBy (set5 w k u0 u1 u2 u3 u4) (some k) :=
  grown_step (grown_step (grown_step (grown_step (grown_setCell w k 0 none u0) (.inl rfl) (grown_setCell _ _ _ _ _)) (.inl rfl) (grown_setCell _ _ _ _ _)) (.inl rfl) (grown_setCell _ _ _ _ _)) (.inl rfl) (grown_setCell _ _ _ _ _)

set_option maxHeartbeats 3200000 in
theorem take_num (g : Nat) (xs : List UInt8) (x : It) (A1 : Option Addr) (c1 : Nat) (A2 : Option Addr) (c2 : Nat) (w : World) (hr : Rd w g xs 0) (hk : x.kind = 0) (hs : x.size = 1 ∨ x.size = 2 ∨ x.size = 4 ∨ x.size = 8) :
    Calls Try.prog 17 #[.pointer (some ⟨g, 0, none⟩), itV x A1 c1 A2 c2] w fun e w' => e = .returned (.agg #[.int .i64 0, .int .i64 x.size, .int .u64 ((numAt xs x.size.toNat).1 : Int), .slice none 0 0, .slice none 0 0]) ∧ Rd w' g (numAt xs x.size.toNat).2.1 (numAt xs x.size.toNat).2.2 ∧ w.grownBy w' (some g) := by
  obtain ⟨kind, size, n, v, l⟩ := x
  simp only at hk hs
  subst hk
  simp only [itV]
  have HR := hid hr
  have hlt := hr.lt
  clear hr
  obtain ⟨s, hs1⟩ : ∃ s : Nat, size = (s : Int) := ⟨size.toNat, by omega⟩
  have hN := Num_any g xs s
  rw [← hs1] at hN
  have HN := hid hN
  have HT : Hid (size.toNat = s) := hid (by omega)
  rw [HT.out]
  have hs2 : s = 1 ∨ s = 2 ∨ s = 4 ∨ s = 8 := by omega
  have HS := hid hs2
  clear hN hs1 hs2 hs
  go_enter Try.func17, Try.ntmps17
  go_wp2_with fail
  refine (HN.out _ (((HR.out.alloc _).alloc _).alloc _) HS.out).mono ?_
  rintro e w1 ⟨rfl, hr1, hg1⟩
  have b1 : w1.heap[w.heap.size + 1]? = some (.cells #[.int .i64 0, .int .i64 0, .int .u64 0, .slice none 0 0, .slice none 0 0] 29 (0, 0)) :=
    block_grown (blk_alloc (blk_new (by simp) _ _) _) hg1 (by simp; omega)
  have b2 : w1.heap[w.heap.size + 1 + 1]? = some (.cells #[.int .i64 0, .int .i64 size, .int .u64 0, .slice none 0 0, .slice none 0 0] 29 (0, 0)) :=
    block_grown (blk_new (by simp) _ _) hg1 (by simp; omega)
  have hG1 : w.grownBy w1 (some g) := grown_step (grown_alloc (grown_alloc (World.grownBy_alloc w _ (some g)) _) _) (.inl rfl) hg1
  have hz1 := hg1.size
  simp only [World.size_alloc] at hz1
  have d0 := cell_of b2 0 _ rfl
  have d1 := cell_of b2 1 _ rfl
  have d2 := cell_of b2 2 _ rfl
  have d3 := cell_of b2 3 _ rfl
  have d4 := cell_of b2 4 _ rfl
  have f2 := frozen_of_row w1 (w.heap.size + 1 + 1) 2 _ _ b2
  have f3 := frozen_of_row w1 (w.heap.size + 1 + 1) 3 _ _ b2
  have f4 := frozen_of_row w1 (w.heap.size + 1 + 1) 4 _ _ b2
  have e0 := cell_of b1 0 _ rfl
  have e1 := cell_of b1 1 _ rfl
  have e2 := cell_of b1 2 _ rfl
  have e3 := cell_of b1 3 _ rfl
  have e4 := cell_of b1 4 _ rfl
  have g0 := frozen_of_row w1 (w.heap.size + 1) 0 _ _ b1
  have g1 := frozen_of_row w1 (w.heap.size + 1) 1 _ _ b1
  have g2 := frozen_of_row w1 (w.heap.size + 1) 2 _ _ b1
  have g3 := frozen_of_row w1 (w.heap.size + 1) 3 _ _ b1
  have g4 := frozen_of_row w1 (w.heap.size + 1) 4 _ _ b1
  have R1 := hid hr1; have G1 := hid hG1
  clear b1 b2 hr1 hg1 hG1
  have S1 := hid (grown_setCell w1 (w.heap.size + 1 + 1) 2 none (.int .u64 ((numAt xs s).1 : Int)))
  have S2 := hid (set5_grown (w1.setCell ⟨w.heap.size + 1 + 1, 2, none⟩ (.int .u64 ((numAt xs s).1 : Int))) (w.heap.size + 1) (.int .i64 0) (.int .i64 size) (.int .u64 ((numAt xs s).1 : Int)) (.slice none 0 0) (.slice none 0 0))
  simp only [set5] at S2
  go_wp2
  refine bodyPost_ret (v := .agg #[.int .i64 0, .int .i64 size, .int .u64 ((numAt xs s).1 : Int), (.slice none 0 0), (.slice none 0 0)]) (by simp [results, Try.results17, go_sem, e0, e1, e2, e3, e4]) rfl ?_
  have RR := (R1.out.grown S1.out (fun k h => by injection h with h; omega)).grown S2.out (fun k h => by injection h with h; omega)
  have GG := grown_fresh (grown_fresh G1.out S1.out (fun k h => by injection h with h; omega)) S2.out (fun k h => by injection h with h; omega)
  exact ⟨rfl, RR, GG⟩

set_option maxHeartbeats 3200000 in
theorem take_vec (g : Nat) (xs : List UInt8) (x : It) (A1 : Option Addr) (c1 : Nat) (A2 : Option Addr) (c2 : Nat) (w : World) (hr : Rd w g xs 0) (hk : x.kind = 1) (hb : xs.length ≤ 1048576) :
    Calls Try.prog 17 #[.pointer (some ⟨g, 0, none⟩), itV x A1 c1 A2 c2] w fun e w' => ∃ A c, e = .returned (.agg #[.int .i64 1, .int .i64 x.size, .int .u64 0, .slice A (vecAt xs).1.length c, .slice none 0 0]) ∧ OwnB w' w.heap.size (.slice A (vecAt xs).1.length c) (vecAt xs).1 ∧ Rd w' g (vecAt xs).2.1 (vecAt xs).2.2 ∧ w.grownBy w' (some g) := by
  obtain ⟨kind, size, n, v, l⟩ := x
  simp only at hk
  subst hk
  simp only [itV]
  have HR := hid hr
  have hlt := hr.lt
  clear hr
  go_enter Try.func17, Try.ntmps17
  go_wp2_with fail
  refine (Vec_any g xs _ (((HR.out.alloc _).alloc _).alloc _) (by omega)).mono ?_
  rintro e w1 ⟨v1, rfl, ho1, hr1, hg1⟩
  obtain ⟨A3, c3, rfl, _⟩ := own_sl ho1
  have O1 := hid ho1
  clear ho1
  have b1 : w1.heap[w.heap.size + 1]? = some (.cells #[.int .i64 0, .int .i64 0, .int .u64 0, .slice none 0 0, .slice none 0 0] 29 (0, 0)) :=
    block_grown (blk_alloc (blk_new (by simp) _ _) _) hg1 (by simp; omega)
  have b2 : w1.heap[w.heap.size + 1 + 1]? = some (.cells #[.int .i64 1, .int .i64 size, .int .u64 0, .slice none 0 0, .slice none 0 0] 29 (0, 0)) :=
    block_grown (blk_new (by simp) _ _) hg1 (by simp; omega)
  have hG1 : w.grownBy w1 (some g) := grown_step (grown_alloc (grown_alloc (World.grownBy_alloc w _ (some g)) _) _) (.inl rfl) hg1
  have hz1 := hg1.size
  simp only [World.size_alloc] at hz1
  have d0 := cell_of b2 0 _ rfl
  have d1 := cell_of b2 1 _ rfl
  have d2 := cell_of b2 2 _ rfl
  have d3 := cell_of b2 3 _ rfl
  have d4 := cell_of b2 4 _ rfl
  have f2 := frozen_of_row w1 (w.heap.size + 1 + 1) 2 _ _ b2
  have f3 := frozen_of_row w1 (w.heap.size + 1 + 1) 3 _ _ b2
  have f4 := frozen_of_row w1 (w.heap.size + 1 + 1) 4 _ _ b2
  have e0 := cell_of b1 0 _ rfl
  have e1 := cell_of b1 1 _ rfl
  have e2 := cell_of b1 2 _ rfl
  have e3 := cell_of b1 3 _ rfl
  have e4 := cell_of b1 4 _ rfl
  have g0 := frozen_of_row w1 (w.heap.size + 1) 0 _ _ b1
  have g1 := frozen_of_row w1 (w.heap.size + 1) 1 _ _ b1
  have g2 := frozen_of_row w1 (w.heap.size + 1) 2 _ _ b1
  have g3 := frozen_of_row w1 (w.heap.size + 1) 3 _ _ b1
  have g4 := frozen_of_row w1 (w.heap.size + 1) 4 _ _ b1
  have R1 := hid hr1; have G1 := hid hG1
  clear b1 b2 hr1 hg1 hG1
  have S1 := hid (grown_setCell w1 (w.heap.size + 1 + 1) 3 none (.slice A3 (vecAt xs).1.length c3))
  have S2 := hid (set5_grown (w1.setCell ⟨w.heap.size + 1 + 1, 3, none⟩ (.slice A3 (vecAt xs).1.length c3)) (w.heap.size + 1) (.int .i64 1) (.int .i64 size) (.int .u64 0) (.slice A3 (vecAt xs).1.length c3) (.slice none 0 0))
  simp only [set5] at S2
  go_wp2
  refine bodyPost_ret (v := .agg #[.int .i64 1, .int .i64 size, .int .u64 0, (.slice A3 (vecAt xs).1.length c3), (.slice none 0 0)]) (by simp [results, Try.results17, go_sem, e0, e1, e2, e3, e4]) rfl ?_
  have RR := (R1.out.grown S1.out (fun k h => by injection h with h; omega)).grown S2.out (fun k h => by injection h with h; omega)
  have GG := grown_fresh (grown_fresh G1.out S1.out (fun k h => by injection h with h; omega)) S2.out (fun k h => by injection h with h; omega)
  refine ⟨A3, c3, rfl, ?_, RR, GG⟩
  have h := O1.out
  simp only [World.size_alloc] at h
  exact own_base ((OwnB.kept h S1.out (fun k h => by injection h with h; omega)).kept S2.out (fun k h => by injection h with h; omega)) (by omega)

set_option maxHeartbeats 3200000 in
theorem take_bytes (g : Nat) (xs : List UInt8) (x : It) (A1 : Option Addr) (c1 : Nat) (A2 : Option Addr) (c2 : Nat) (w : World) (hr : Rd w g xs 0) (hk : x.kind = 4) (hb : xs.length ≤ 1048576) (hs : 0 ≤ x.size) (hs2 : x.size ≤ 1048576) :
    Calls Try.prog 17 #[.pointer (some ⟨g, 0, none⟩), itV x A1 c1 A2 c2] w fun e w' => ∃ A c, e = .returned (.agg #[.int .i64 4, .int .i64 x.size, .int .u64 0, .slice A (takeAt xs x.size.toNat).1.length c, .slice none 0 0]) ∧ OwnB w' w.heap.size (.slice A (takeAt xs x.size.toNat).1.length c) (takeAt xs x.size.toNat).1 ∧ Rd w' g (takeAt xs x.size.toNat).2.1 (takeAt xs x.size.toNat).2.2 ∧ w.grownBy w' (some g) := by
  obtain ⟨kind, size, n, v, l⟩ := x
  simp only at hk hs hs2
  subst hk
  simp only [itV]
  have HR := hid hr
  have hlt := hr.lt
  clear hr
  have hT := Take_any g xs size.toNat
  rw [show ((size.toNat : Nat) : Int) = size from by omega] at hT
  have HT := hid hT
  clear hT
  go_enter Try.func17, Try.ntmps17
  go_wp2_with fail
  refine (HT.out _ (((HR.out.alloc _).alloc _).alloc _) (by omega) (by omega)).mono ?_
  rintro e w1 ⟨v1, rfl, ho1, hr1, hg1⟩
  obtain ⟨A3, c3, rfl, _⟩ := own_sl ho1
  have O1 := hid ho1
  clear ho1
  have b1 : w1.heap[w.heap.size + 1]? = some (.cells #[.int .i64 0, .int .i64 0, .int .u64 0, .slice none 0 0, .slice none 0 0] 29 (0, 0)) :=
    block_grown (blk_alloc (blk_new (by simp) _ _) _) hg1 (by simp; omega)
  have b2 : w1.heap[w.heap.size + 1 + 1]? = some (.cells #[.int .i64 4, .int .i64 size, .int .u64 0, .slice none 0 0, .slice none 0 0] 29 (0, 0)) :=
    block_grown (blk_new (by simp) _ _) hg1 (by simp; omega)
  have hG1 : w.grownBy w1 (some g) := grown_step (grown_alloc (grown_alloc (World.grownBy_alloc w _ (some g)) _) _) (.inl rfl) hg1
  have hz1 := hg1.size
  simp only [World.size_alloc] at hz1
  have d0 := cell_of b2 0 _ rfl
  have d1 := cell_of b2 1 _ rfl
  have d2 := cell_of b2 2 _ rfl
  have d3 := cell_of b2 3 _ rfl
  have d4 := cell_of b2 4 _ rfl
  have f2 := frozen_of_row w1 (w.heap.size + 1 + 1) 2 _ _ b2
  have f3 := frozen_of_row w1 (w.heap.size + 1 + 1) 3 _ _ b2
  have f4 := frozen_of_row w1 (w.heap.size + 1 + 1) 4 _ _ b2
  have e0 := cell_of b1 0 _ rfl
  have e1 := cell_of b1 1 _ rfl
  have e2 := cell_of b1 2 _ rfl
  have e3 := cell_of b1 3 _ rfl
  have e4 := cell_of b1 4 _ rfl
  have g0 := frozen_of_row w1 (w.heap.size + 1) 0 _ _ b1
  have g1 := frozen_of_row w1 (w.heap.size + 1) 1 _ _ b1
  have g2 := frozen_of_row w1 (w.heap.size + 1) 2 _ _ b1
  have g3 := frozen_of_row w1 (w.heap.size + 1) 3 _ _ b1
  have g4 := frozen_of_row w1 (w.heap.size + 1) 4 _ _ b1
  have R1 := hid hr1; have G1 := hid hG1
  clear b1 b2 hr1 hg1 hG1
  have S1 := hid (grown_setCell w1 (w.heap.size + 1 + 1) 3 none (.slice A3 (takeAt xs size.toNat).1.length c3))
  have S2 := hid (set5_grown (w1.setCell ⟨w.heap.size + 1 + 1, 3, none⟩ (.slice A3 (takeAt xs size.toNat).1.length c3)) (w.heap.size + 1) (.int .i64 4) (.int .i64 size) (.int .u64 0) (.slice A3 (takeAt xs size.toNat).1.length c3) (.slice none 0 0))
  simp only [set5] at S2
  go_wp2
  refine bodyPost_ret (v := .agg #[.int .i64 4, .int .i64 size, .int .u64 0, (.slice A3 (takeAt xs size.toNat).1.length c3), (.slice none 0 0)]) (by simp [results, Try.results17, go_sem, e0, e1, e2, e3, e4]) rfl ?_
  have RR := (R1.out.grown S1.out (fun k h => by injection h with h; omega)).grown S2.out (fun k h => by injection h with h; omega)
  have GG := grown_fresh (grown_fresh G1.out S1.out (fun k h => by injection h with h; omega)) S2.out (fun k h => by injection h with h; omega)
  refine ⟨A3, c3, rfl, ?_, RR, GG⟩
  have h := O1.out
  simp only [World.size_alloc] at h
  exact own_base ((OwnB.kept h S1.out (fun k h => by injection h with h; omega)).kept S2.out (fun k h => by injection h with h; omega)) (by omega)

set_option maxHeartbeats 3200000 in
theorem take_list (g : Nat) (xs : List UInt8) (x : It) (A1 : Option Addr) (c1 : Nat) (A2 : Option Addr) (c2 : Nat) (w : World) (hr : Rd w g xs 0) (hk : x.kind = 2) (hb : xs.length ≤ 1048576) :
    Calls Try.prog 17 #[.pointer (some ⟨g, 0, none⟩), itV x A1 c1 A2 c2] w fun e w' => ∃ A c, e = .returned (.agg #[.int .i64 2, .int .i64 x.size, .int .u64 0, .slice none 0 0, .slice A (listAt xs).1.length c]) ∧ Rows2 w' w'.heap.size A (listAt xs).1 ∧ Rd w' g (listAt xs).2.1 (listAt xs).2.2 ∧ w.grownBy w' (some g) := by
  obtain ⟨kind, size, n, v, l⟩ := x
  simp only at hk
  subst hk
  simp only [itV]
  have HR := hid hr
  have hlt := hr.lt
  clear hr
  go_enter Try.func17, Try.ntmps17
  go_wp2_with fail
  refine (List_any g xs _ (((HR.out.alloc _).alloc _).alloc _) (by omega)).mono ?_
  intro e w1 hp
  unfold ListPost at hp
  obtain ⟨v1, rfl, ho1, hr1, hg1⟩ := hp
  obtain ⟨A3, c3, rfl, _⟩ := ho1.rows
  have O1 := hid ho1
  clear ho1
  have b1 : w1.heap[w.heap.size + 1]? = some (.cells #[.int .i64 0, .int .i64 0, .int .u64 0, .slice none 0 0, .slice none 0 0] 29 (0, 0)) :=
    block_grown (blk_alloc (blk_new (by simp) _ _) _) hg1 (by simp; omega)
  have b2 : w1.heap[w.heap.size + 1 + 1]? = some (.cells #[.int .i64 2, .int .i64 size, .int .u64 0, .slice none 0 0, .slice none 0 0] 29 (0, 0)) :=
    block_grown (blk_new (by simp) _ _) hg1 (by simp; omega)
  have hG1 : w.grownBy w1 (some g) := grown_step (grown_alloc (grown_alloc (World.grownBy_alloc w _ (some g)) _) _) (.inl rfl) hg1
  have hz1 := hg1.size
  simp only [World.size_alloc] at hz1
  have d0 := cell_of b2 0 _ rfl
  have d1 := cell_of b2 1 _ rfl
  have d2 := cell_of b2 2 _ rfl
  have d3 := cell_of b2 3 _ rfl
  have d4 := cell_of b2 4 _ rfl
  have f2 := frozen_of_row w1 (w.heap.size + 1 + 1) 2 _ _ b2
  have f3 := frozen_of_row w1 (w.heap.size + 1 + 1) 3 _ _ b2
  have f4 := frozen_of_row w1 (w.heap.size + 1 + 1) 4 _ _ b2
  have e0 := cell_of b1 0 _ rfl
  have e1 := cell_of b1 1 _ rfl
  have e2 := cell_of b1 2 _ rfl
  have e3 := cell_of b1 3 _ rfl
  have e4 := cell_of b1 4 _ rfl
  have g0 := frozen_of_row w1 (w.heap.size + 1) 0 _ _ b1
  have g1 := frozen_of_row w1 (w.heap.size + 1) 1 _ _ b1
  have g2 := frozen_of_row w1 (w.heap.size + 1) 2 _ _ b1
  have g3 := frozen_of_row w1 (w.heap.size + 1) 3 _ _ b1
  have g4 := frozen_of_row w1 (w.heap.size + 1) 4 _ _ b1
  have R1 := hid hr1; have G1 := hid hG1
  clear b1 b2 hr1 hg1 hG1
  have S1 := hid (grown_setCell w1 (w.heap.size + 1 + 1) 4 none (.slice A3 (listAt xs).1.length c3))
  have S2 := hid (set5_grown (w1.setCell ⟨w.heap.size + 1 + 1, 4, none⟩ (.slice A3 (listAt xs).1.length c3)) (w.heap.size + 1) (.int .i64 2) (.int .i64 size) (.int .u64 0) (.slice none 0 0) (.slice A3 (listAt xs).1.length c3))
  simp only [set5] at S2
  go_wp2
  refine bodyPost_ret (v := .agg #[.int .i64 2, .int .i64 size, .int .u64 0, (.slice none 0 0), (.slice A3 (listAt xs).1.length c3)]) (by simp [results, Try.results17, go_sem, e0, e1, e2, e3, e4]) rfl ?_
  have RR := (R1.out.grown S1.out (fun k h => by injection h with h; omega)).grown S2.out (fun k h => by injection h with h; omega)
  have GG := grown_fresh (grown_fresh G1.out S1.out (fun k h => by injection h with h; omega)) S2.out (fun k h => by injection h with h; omega)
  have h := O1.out
  simp only [World.size_alloc] at h
  have h2 := (OwnL.kept h S1.out (fun k h => by injection h with h; omega)).kept S2.out (fun k h => by injection h with h; omega)
  obtain ⟨A4, c4, hA, hR⟩ := h2.rows
  simp only [Value.slice.injEq, true_and] at hA
  obtain ⟨rfl, rfl⟩ := hA
  exact ⟨A3, c3, rfl, hR, RR, GG⟩

set_option maxHeartbeats 3200000 in
theorem take_flag (g : Nat) (xs : List UInt8) (x : It) (A1 : Option Addr) (c1 : Nat) (A2 : Option Addr) (c2 : Nat) (w : World) (hr : Rd w g xs 0) (hk : x.kind = 3) :
    Calls Try.prog 17 #[.pointer (some ⟨g, 0, none⟩), itV x A1 c1 A2 c2] w fun e w' => e = .returned (.agg #[.int .i64 3, .int .i64 x.size, .int .u64 (if (flagAt xs).1 then 1 else 0), .slice none 0 0, .slice none 0 0]) ∧ Rd w' g (flagAt xs).2.1 (flagAt xs).2.2 ∧ w.grownBy w' (some g) := by
  obtain ⟨kind, size, n, v, l⟩ := x
  simp only at hk
  subst hk
  simp only [itV]
  have HR := hid hr
  have hlt := hr.lt
  clear hr
  have HF := hid (Flag_any g xs)
  rcases hfl : (flagAt xs).1 with _ | _
  · have HFL := hid hfl
    clear hfl
    go_enter Try.func17, Try.ntmps17
    go_wp2_with fail
    refine (HF.out _ (((HR.out.alloc _).alloc _).alloc _)).mono ?_
    rintro e w1 ⟨rfl, hr1, hg1⟩
    rw [HFL.out]
    have b1 : w1.heap[w.heap.size + 1]? = some (.cells #[.int .i64 0, .int .i64 0, .int .u64 0, .slice none 0 0, .slice none 0 0] 29 (0, 0)) :=
      block_grown (blk_alloc (blk_new (by simp) _ _) _) hg1 (by simp; omega)
    have b2 : w1.heap[w.heap.size + 1 + 1]? = some (.cells #[.int .i64 3, .int .i64 size, .int .u64 0, .slice none 0 0, .slice none 0 0] 29 (0, 0)) :=
      block_grown (blk_new (by simp) _ _) hg1 (by simp; omega)
    have hG1 : w.grownBy w1 (some g) := grown_step (grown_alloc (grown_alloc (World.grownBy_alloc w _ (some g)) _) _) (.inl rfl) hg1
    have hz1 := hg1.size
    simp only [World.size_alloc] at hz1
    have d0 := cell_of b2 0 _ rfl
    have d1 := cell_of b2 1 _ rfl
    have d2 := cell_of b2 2 _ rfl
    have d3 := cell_of b2 3 _ rfl
    have d4 := cell_of b2 4 _ rfl
    have f2 := frozen_of_row w1 (w.heap.size + 1 + 1) 2 _ _ b2
    have f3 := frozen_of_row w1 (w.heap.size + 1 + 1) 3 _ _ b2
    have f4 := frozen_of_row w1 (w.heap.size + 1 + 1) 4 _ _ b2
    have e0 := cell_of b1 0 _ rfl
    have e1 := cell_of b1 1 _ rfl
    have e2 := cell_of b1 2 _ rfl
    have e3 := cell_of b1 3 _ rfl
    have e4 := cell_of b1 4 _ rfl
    have g0 := frozen_of_row w1 (w.heap.size + 1) 0 _ _ b1
    have g1 := frozen_of_row w1 (w.heap.size + 1) 1 _ _ b1
    have g2 := frozen_of_row w1 (w.heap.size + 1) 2 _ _ b1
    have g3 := frozen_of_row w1 (w.heap.size + 1) 3 _ _ b1
    have g4 := frozen_of_row w1 (w.heap.size + 1) 4 _ _ b1
    have R1 := hid hr1; have G1 := hid hG1
    clear b1 b2 hr1 hg1 hG1
    have S1 := hid (World.grownBy.refl w1 (some (w.heap.size + 1 + 1)))
    have S2 := hid (set5_grown w1 (w.heap.size + 1) (.int .i64 3) (.int .i64 size) (.int .u64 0) (.slice none 0 0) (.slice none 0 0))
    simp only [set5] at S2
    go_wp2
    refine bodyPost_ret (v := .agg #[.int .i64 3, .int .i64 size, .int .u64 0, (.slice none 0 0), (.slice none 0 0)]) (by simp [results, Try.results17, go_sem, e0, e1, e2, e3, e4]) rfl ?_
    have RR := (R1.out.grown S1.out (fun k h => by injection h with h; omega)).grown S2.out (fun k h => by injection h with h; omega)
    have GG := grown_fresh (grown_fresh G1.out S1.out (fun k h => by injection h with h; omega)) S2.out (fun k h => by injection h with h; omega)
    exact ⟨rfl, RR, GG⟩
  · have HFL := hid hfl
    clear hfl
    go_enter Try.func17, Try.ntmps17
    go_wp2_with fail
    refine (HF.out _ (((HR.out.alloc _).alloc _).alloc _)).mono ?_
    rintro e w1 ⟨rfl, hr1, hg1⟩
    rw [HFL.out]
    have b1 : w1.heap[w.heap.size + 1]? = some (.cells #[.int .i64 0, .int .i64 0, .int .u64 0, .slice none 0 0, .slice none 0 0] 29 (0, 0)) :=
      block_grown (blk_alloc (blk_new (by simp) _ _) _) hg1 (by simp; omega)
    have b2 : w1.heap[w.heap.size + 1 + 1]? = some (.cells #[.int .i64 3, .int .i64 size, .int .u64 0, .slice none 0 0, .slice none 0 0] 29 (0, 0)) :=
      block_grown (blk_new (by simp) _ _) hg1 (by simp; omega)
    have hG1 : w.grownBy w1 (some g) := grown_step (grown_alloc (grown_alloc (World.grownBy_alloc w _ (some g)) _) _) (.inl rfl) hg1
    have hz1 := hg1.size
    simp only [World.size_alloc] at hz1
    have d0 := cell_of b2 0 _ rfl
    have d1 := cell_of b2 1 _ rfl
    have d2 := cell_of b2 2 _ rfl
    have d3 := cell_of b2 3 _ rfl
    have d4 := cell_of b2 4 _ rfl
    have f2 := frozen_of_row w1 (w.heap.size + 1 + 1) 2 _ _ b2
    have f3 := frozen_of_row w1 (w.heap.size + 1 + 1) 3 _ _ b2
    have f4 := frozen_of_row w1 (w.heap.size + 1 + 1) 4 _ _ b2
    have e0 := cell_of b1 0 _ rfl
    have e1 := cell_of b1 1 _ rfl
    have e2 := cell_of b1 2 _ rfl
    have e3 := cell_of b1 3 _ rfl
    have e4 := cell_of b1 4 _ rfl
    have g0 := frozen_of_row w1 (w.heap.size + 1) 0 _ _ b1
    have g1 := frozen_of_row w1 (w.heap.size + 1) 1 _ _ b1
    have g2 := frozen_of_row w1 (w.heap.size + 1) 2 _ _ b1
    have g3 := frozen_of_row w1 (w.heap.size + 1) 3 _ _ b1
    have g4 := frozen_of_row w1 (w.heap.size + 1) 4 _ _ b1
    have R1 := hid hr1; have G1 := hid hG1
    clear b1 b2 hr1 hg1 hG1
    have S1 := hid (grown_setCell w1 (w.heap.size + 1 + 1) 2 none (.int .u64 1))
    have S2 := hid (set5_grown (w1.setCell ⟨w.heap.size + 1 + 1, 2, none⟩ (.int .u64 1)) (w.heap.size + 1) (.int .i64 3) (.int .i64 size) (.int .u64 1) (.slice none 0 0) (.slice none 0 0))
    simp only [set5] at S2
    go_wp2
    refine bodyPost_ret (v := .agg #[.int .i64 3, .int .i64 size, .int .u64 1, (.slice none 0 0), (.slice none 0 0)]) (by simp [results, Try.results17, go_sem, e0, e1, e2, e3, e4]) rfl ?_
    have RR := (R1.out.grown S1.out (fun k h => by injection h with h; omega)).grown S2.out (fun k h => by injection h with h; omega)
    have GG := grown_fresh (grown_fresh G1.out S1.out (fun k h => by injection h with h; omega)) S2.out (fun k h => by injection h with h; omega)
    exact ⟨rfl, RR, GG⟩
end Go.Proofs.Ytkdpaaaleicopaa
