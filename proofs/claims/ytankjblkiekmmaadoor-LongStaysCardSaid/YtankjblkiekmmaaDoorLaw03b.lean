/-
  The statement LongStays: the walk.
-/
import Derived.Test.YtankjblkiekmmaaDoorLaw03a
import Derived.Test.YtankjblkiekmmaaDoorSame
namespace Go.Proofs.YtankjblkiekmmaaDoor
open Go.RowKit
set_option linter.unusedVariables false
set_option linter.unusedSimpArgs false

theorem emptyL_row (W : World) (e : TypeId) {k base : Nat} (h : W.heap.size = k) (hb : base ≤ k) : (W.alloc (.cells #[] e)).ownsRow base e 1 (.slice (some ⟨k, 0, none⟩) 0 0) 0 [] := by
  subst h
  exact World.ownsRow_lit W #[] 0 hb (by simp) rfl
/-- A new row of byte slices. -/
theorem rowsL_new (w : World) (l : List (Option Addr × List UInt8 × Nat)) (h : ∀ p ∈ l, Sq w w.heap.size p.1 p.2.2 (bvs p.2.1)) (t : TypeId) :
    Rows2' (w.alloc (.cells (l.map fun p => Value.slice p.1 p.2.1.length p.2.2).toArray t)) (w.heap.size + 1) (some ⟨w.heap.size, 0, none⟩) (l.map fun p => p.2.1) := by
  refine ⟨l.map fun p => Value.slice p.1 p.2.1.length p.2.2, by simp, ?_, fun j x hx => ?_⟩
  · have := Lie.newA w (l.map fun p => Value.slice p.1 p.2.1.length p.2.2).toArray t
    simpa using this
  · rw [List.getElem?_map] at hx
    obtain ⟨p, hp, rfl⟩ := Option.map_eq_some_iff.1 hx
    refine ⟨p.1, p.2.2, by simp [hp], ((h p (List.mem_of_getElem? hp)).alloc (Nat.le_refl _) _).more (by omega)⟩
/-- A digest's block, and its slice. -/
def DigAt (W : World) (b : Nat) (xs : List UInt8) : Prop := W.heap[b]? = some (.cells (byA (longB xs)) A64B (0, 0))
/-- The digest of parts that stand in a new row. -/
theorem ofsL_any (l : List (Option Addr × List UInt8 × Nat)) (w : World) (h : ∀ p ∈ l, Sq w w.heap.size p.1 p.2.2 (bvs p.2.1)) (hG : GlobL w) (hn : (l.map fun p => p.2.1).flatten.length ≤ 1152921504606846976) (hl : l.length ≤ 9223372036854775807) :
    Calls Tryd.prog 23 #[.slice (some ⟨w.heap.size, 0, none⟩) l.length l.length] (w.alloc (.cells (l.map fun p => Value.slice p.1 p.2.1.length p.2.2).toArray 22)) (fun e W' => ∃ b, e = .returned (.slice (some ⟨b, 0, none⟩) 64 64) ∧ DigAt W' b (l.map fun p => p.2.1).flatten ∧ w.heap.size < b ∧ Below w.heap.size w W') := by
  have hr := rowsL_new w l h 22
  have hb : Below w.heap.size w (w.alloc (.cells (l.map fun p => Value.slice p.1 p.2.1.length p.2.2).toArray 22)) := (Below.refl _ _).alloc (Nat.le_refl _) _
  have h1 := OfL_any (some ⟨w.heap.size, 0, none⟩) (l.map fun p => p.2.1) l.length (w.alloc (.cells (l.map fun p => Value.slice p.1 p.2.1.length p.2.2).toArray 22)) (by simpa using hr) (hG.below hb (Nat.le_refl _)) (by simpa using hl) hn
  rw [List.length_map] at h1
  exact h1.mono fun e W' ⟨v, he, ⟨b, hv, hbk, hbz, _⟩, hB⟩ => ⟨b, by rw [he, hv], hbk, by rw [World.size_alloc] at hbz; omega, hb.trans (hB.mono (by simp))⟩
theorem lieL_block {w : World} {b : Nat} {xs : List UInt8} (h : DigAt w b xs) : Lie w w.heap.size (some ⟨b, 0, none⟩) (bvs (longB xs)) := fun _ =>
  ⟨b, 0, rfl, block_lt h, fun j u hu => by rw [Nat.zero_add]; exact cell_of h j u (by rw [byA, List.getElem?_toArray]; exact hu)⟩
theorem same64 (W : World) (p q : Nat) (xs : List UInt8) (h1 : DigAt W p xs) (h2 : DigAt W q xs) :
    Calls Tryd.prog 12 #[.slice (some ⟨p, 0, none⟩) 64 64, .slice (some ⟨q, 0, none⟩) 64 64] W (fun e W' => e = .returned (.bool true) ∧ ∃ n, W' = W.drewN n) := by
  have h := Same_any (some ⟨p, 0, none⟩) (longB xs) 64 (some ⟨q, 0, none⟩) (longB xs) 64 W W.heap.size W.heap.size (lieL_block h1) (lieL_block h2) (by rw [longB_length]; omega)
  rw [longB_length, show (longB xs == longB xs) = true from beq_self_eq_true _] at h
  exact h

set_option maxRecDepth 100000 in
set_option maxHeartbeats 1600000 in
theorem staysL_any (A : Option Addr) (a : List UInt8) (c : Nat) (w : World) (hA : Sq w w.heap.size A c (bvs a)) (hG : GlobL w) :
    Calls Tryd.prog 9 #[.slice A a.length c] w fun e w' => e = .returned (.bool true) ∧ Below w.heap.size w w' := by
  have hc1 := hA.cap
  rw [bvs_length] at hc1
  obtain ⟨hc1, hc1'⟩ := hc1
  have HA := hid hA; have HG := hid hG
  clear hA hG
  by_cases h1 : 400 < a.length
  · have hx : (400 : Int) < (a.length : Int) := by omega
    go_enter Tryd.func9, Tryd.ntmps9
    go_wp2_with fail
    refine (aliveL_any _ HG.out).mono ?_
    rintro e w1 ⟨rfl, hb1⟩
    go_wp2
    go_ret
    exact ⟨rfl, hb1⟩
  have hx1 : ¬ (400 : Int) < (a.length : Int) := by omega
  go_enter Tryd.func9, Tryd.ntmps9
  go_wp2_with fail
  refine (aliveL_any _ HG.out).mono ?_
  rintro e w1 ⟨rfl, hb1⟩
  have hw1 := hb1.size
  have hAl1 : Lie (w1.alloc (.cells #[] 5)) w.heap.size A (bvs a) := (HA.out.lie.below hb1).alloc hw1 _
  have HAL1 := hid hAl1; have HB1 := hid hb1
  clear hAl1 hb1
  go_wp2_with (at_builtin; refine wpList_append_lie rfl (.tmp 11) (.tmp 12) 22 rfl w1.heap.size 5 (.int .u8 0) 1 Tryd.underlying22 infoU8 rfl rfl (emptyL_row _ _ (k := w1.heap.size) rfl (Nat.le_refl _)) (bvs_length a) rfl HAL1.out (bvs_one a) ?d1 ?d2 ?d3 ?_)
  case d1 => unfold maxLen; omega
  case d2 => omega
  case d3 => simp
  intro v2 w2 hown2 hg2 hat2
  have hO2 : OwnB w2 w1.heap.size v2 a := by simpa [OwnB] using hown2
  have hB2 : Below w.heap.size w w2 := (HB1.out.alloc hw1 _).grown hg2 (by simp; omega) (fun q h => by simp [Value.ownBlock] at h; omega)
  have hw2 : w1.heap.size < w2.heap.size := Nat.lt_of_lt_of_le (by simp) hg2.size
  obtain ⟨Aw, cw, rfl, hSw⟩ := own_sl hO2
  have hA2 : Sq w2 w2.heap.size A c (bvs a) := (HA.out.below hB2).more (by omega)
  have HOF2 := hid (ofsL_any [(A, a, c)] w2 (by intro p hp; simp at hp; subst hp; exact hA2) (HG.out.below hB2 (Nat.le_refl _)) (by simp; omega) (by simp))
  simp only [List.map_cons, List.map_nil, List.flatten_cons, List.flatten_nil, List.append_nil, List.length_cons, List.length_nil, Nat.zero_add] at HOF2
  have HB2 := hid hB2; have HSW := hid hSw.sq
  clear hO2 hB2 hown2 hg2 hat2 hSw hA2
  go_wp2_with fail
  refine HOF2.out.mono ?_
  rintro e w3 ⟨b1, rfl, hD1, hb1, hB3⟩
  have hB3w : Below w.heap.size w w3 := HB2.out.trans (hB3.mono (by omega))
  have hA3 : Sq w3 w3.heap.size A c (bvs a) := (HA.out.below hB3w).more hB3w.size
  have HOF3 := hid (ofsL_any [(A, a, c)] w3 (by intro p hp; simp at hp; subst hp; exact hA3) (HG.out.below hB3w (Nat.le_refl _)) (by simp; omega) (by simp))
  simp only [List.map_cons, List.map_nil, List.flatten_cons, List.flatten_nil, List.append_nil, List.length_cons, List.length_nil, Nat.zero_add] at HOF3
  have hw3 := hB3.size
  have HSW3 := hid (HSW.out.below hB3)
  have HD1 := hid hD1; have HB3 := hid hB3w
  have hb1l := block_lt hD1
  clear hB3 hB3w hA3 hD1 HSW HOF2
  go_wp2_with fail
  refine HOF3.out.mono ?_
  rintro e w4 ⟨b2, rfl, hD2, hb2, hB4⟩
  have hB4w : Below w.heap.size w w4 := HB3.out.trans (hB4.mono (by omega))
  have hD14 : DigAt w4 b1 a := (hB4.block b1 hb1l).trans HD1.out
  have HS1 := hid (same64 w4 b1 b2 a hD14 hD2)
  have hSw4 : Sq w4 w2.heap.size Aw cw (bvs a) := HSW3.out.below (hB4.mono hw3)
  have HS2 := hid (fun n => Same_any A a c Aw a cw (w4.drewN n) w.heap.size w2.heap.size (HA.out.lie.below (below_drewN hB4w n)) (hSw4.lie.drewN n) (by omega))
  rw [show (a == a) = true from beq_self_eq_true _] at HS2
  have hb2l := block_lt hD2
  have hw4 := hB4.size
  have HD14 := hid hD14; have HD2 := hid hD2; have HB4 := hid hB4w
  have h64 : ((64 : Int) != 64) = false := rfl
  clear hB4 hB4w hD14 hD2 hSw4 HSW3 HOF3
  go_wp2_with fail
  refine HS1.out.mono ?_
  rintro e w5 ⟨rfl, n5, rfl⟩
  go_wp2_with fail
  refine (HS2.out _).mono ?_
  rintro e w6 ⟨rfl, n6, rfl⟩
  obtain ⟨z, hz⟩ : ∃ z, (byA (longB a))[0]? = some (.int .u8 (UInt8.toNat z : Int)) := by
    have hl : 0 < (longB a).length := by rw [longB_length]; omega
    exact ⟨(longB a)[0], by rw [byA, List.getElem?_toArray, bvs, List.getElem?_map, List.getElem?_eq_getElem hl]; rfl⟩
  have hc6 : ((w4.drewN n5).drewN n6).cell? ⟨b1, 0, none⟩ = some (.int .u8 (z.toNat : Int)) := cell_of (w := w4) HD14.out 0 _ hz
  have hf6 : ((w4.drewN n5).drewN n6).frozen? ⟨b1, 0, none⟩ = false := frozen_of_row w4 b1 0 _ _ HD14.out
  obtain ⟨w6, hw6⟩ : ∃ w6, w6 = (w4.drewN n5).drewN n6 := ⟨_, rfl⟩
  have HD26 : Hid (DigAt w6 b2 a) := by rw [hw6]; exact HD2
  have HB6 : Hid (Below w.heap.size w w6) := by rw [hw6]; exact hid (below_drewN (below_drewN HB4.out n5) n6)
  have hz6 : w6.heap.size = w4.heap.size := by rw [hw6]; rfl
  rw [← hw6] at hc6 hf6 ⊢
  have HZ6 := hid hz6
  clear hw6 hz hz6 HS1 HS2 HD14 HD2 HB4
  have hb1w : w.heap.size ≤ b1 := by have := HB3.out.size; omega
  have hb12 : b1 ≠ b2 := by omega
  have hb16 : b1 < w6.heap.size := by rw [HZ6.out]; omega
  have hB7 : ∀ V, Below w.heap.size w (w6.setCell ⟨b1, 0, none⟩ V) := fun V => HB6.out.setCell hb1w _
  have hD7 : ∀ V, DigAt (w6.setCell ⟨b1, 0, none⟩ V) b2 a := fun V => (heap_setCell_other w6 _ _ _ (by simp; omega)).trans HD26.out
  have hof7 := fun V => ofsL_any [(A, a, c)] (w6.setCell ⟨b1, 0, none⟩ V) (by intro p hp; simp at hp; subst hp; exact (HA.out.below (hB7 V)).more (hB7 V).size) (HG.out.below (hB7 V) (Nat.le_refl _)) (by simp; omega) (by simp)
  have hz7 : ∀ V, (w6.setCell ⟨b1, 0, none⟩ V).heap.size = w6.heap.size := fun V => by simp [World.setCell]
  simp only [List.map_cons, List.map_nil, List.flatten_cons, List.flatten_nil, List.append_nil, List.length_cons, List.length_nil, Nat.zero_add, hz7] at hof7
  have HOF7 := hid hof7; have HB7 := hid hB7; have HD7 := hid hD7; have HZ7 := hid hz7
  clear hof7 hB7 hD7 hz7
  go_wp2_with fail
  refine (HOF7.out _).mono ?_
  rintro e w8 ⟨b3, rfl, hD3, hb3, hB8⟩
  have hD28 : DigAt w8 b2 a := (hB8.block b2 (by have := HZ6.out; omega)).trans (HD7.out _)
  have hB8w : Below w.heap.size w w8 := (HB7.out _).trans (hB8.mono (by have := HB6.out.size; omega))
  have HS8 := hid (same64 w8 b3 b2 a hD3 hD28)
  have HOF8 := hid (fun n => OfL_any none [] 0 (w8.drewN n) (Rows2'.none _ _) (HG.out.below (below_drewN hB8w n) (Nat.le_refl _)) (by simp) (by simp))
  have HB8 := hid hB8w
  clear hD3 hD28 hB8 hB8w hc6 hf6
  go_wp2_with fail
  refine HS8.out.mono ?_
  rintro e w9 ⟨rfl, n9, rfl⟩
  go_wp2_with fail
  refine (HOF8.out _).mono ?_
  rintro e w10 ⟨v, rfl, ⟨b4, rfl, hD4, hb4, hl4⟩, hB10⟩
  have HB10 := hid hB10
  clear hD4 hb4 hl4 hB10
  go_wp2
  go_ret
  exact ⟨rfl, (below_drewN HB8.out n9).trans (HB10.out.mono (below_drewN HB8.out n9).size)⟩
end Go.Proofs.YtankjblkiekmmaaDoor
