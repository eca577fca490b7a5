/-
  For every two byte slices: the digest of 64 bytes of both, by long.Sum and long.Of in any parts, is the document's own digest: the law LongIs returns true for every input.
-/
import Derived.Test.YtokggppfobbblaaDoorLaw03a
import Derived.Test.YtokggppfobbblaaDoorSame
import Derived.Test.YtokggppfobbblaaDoorOpenS
import Derived.Test.YtokggppfobbblaaDoorShaT
import Derived.Test.YtokggppfobbblaaDoorLonU
namespace Go.Proofs.YtokggppfobbblaaDoor
open Go.RowKit
set_option linter.unusedVariables false
set_option linter.unusedSimpArgs false

theorem emptyL_row (W : World) (e : TypeId) {k base : Nat} (h : W.heap.size = k) (hb : base ≤ k) : (W.alloc (.cells #[] e)).ownsRow base e 1 (.slice (some ⟨k, 0, none⟩) 0 0) 0 [] := by
  subst h
  exact World.ownsRow_lit W #[] 0 hb (by simp) rfl
/-- A new row of byte slices. -/
theorem rowsL_new (w : World) (l : List (Option Addr × List UInt8 × Nat)) (h : ∀ p ∈ l, Sq w w.heap.size p.1 p.2.2 (bvs p.2.1)) (t : TypeId) :
    Rows2' (w.alloc (.cells (l.map fun p => Value.slice p.1 p.2.1.length p.2.2).toArray t)) (w.heap.size + 1) (some ⟨w.heap.size, 0, none⟩) (l.map fun p => p.2.1) := by
  refine ⟨l.map fun p => Value.slice p.1 p.2.1.length p.2.2, by simp, ?_, fun j x hx => ?_⟩
  · have := Lie.newA w (l.map fun p => Value.slice p.1 p.2.1.length p.2.2).toArray t
    simpa using this
  · rw [List.getElem?_map] at hx
    obtain ⟨p, hp, rfl⟩ := Option.map_eq_some_iff.1 hx
    refine ⟨p.1, p.2.2, by simp [hp], ((h p (List.mem_of_getElem? hp)).alloc (Nat.le_refl _) _).more (by omega)⟩
/-- A digest's block, and its slice. -/
def DigAt (W : World) (b : Nat) (xs : List UInt8) : Prop := W.heap[b]? = some (.cells (byA (longB xs)) A64B (0, 0))
/-- The digest of parts that stand in a new row. -/
theorem ofsL_any (l : List (Option Addr × List UInt8 × Nat)) (w : World) (h : ∀ p ∈ l, Sq w w.heap.size p.1 p.2.2 (bvs p.2.1)) (hG : GlobL w) (hn : (l.map fun p => p.2.1).flatten.length ≤ 1152921504606846976) (hl : l.length ≤ 9223372036854775807) :
    Calls Tryd.prog 18 #[.slice (some ⟨w.heap.size, 0, none⟩) l.length l.length] (w.alloc (.cells (l.map fun p => Value.slice p.1 p.2.1.length p.2.2).toArray 22)) (fun e W' => ∃ b, e = .returned (.slice (some ⟨b, 0, none⟩) 64 64) ∧ DigAt W' b (l.map fun p => p.2.1).flatten ∧ w.heap.size < b ∧ Below w.heap.size w W') := by
  have hr := rowsL_new w l h 22
  have hb : Below w.heap.size w (w.alloc (.cells (l.map fun p => Value.slice p.1 p.2.1.length p.2.2).toArray 22)) := (Below.refl _ _).alloc (Nat.le_refl _) _
  have h1 := OfL_any (some ⟨w.heap.size, 0, none⟩) (l.map fun p => p.2.1) l.length (w.alloc (.cells (l.map fun p => Value.slice p.1 p.2.1.length p.2.2).toArray 22)) (by simpa using hr) (hG.below hb (Nat.le_refl _)) (by simpa using hl) hn
  rw [List.length_map] at h1
  exact h1.mono fun e W' ⟨v, he, ⟨b, hv, hbk, hbz, _⟩, hB⟩ => ⟨b, by rw [he, hv], hbk, by rw [World.size_alloc] at hbz; omega, hb.trans (hB.mono (by simp))⟩
theorem lieL_block {w : World} {b : Nat} {xs : List UInt8} (h : DigAt w b xs) : Lie w w.heap.size (some ⟨b, 0, none⟩) (bvs (longB xs)) := fun _ =>
  ⟨b, 0, rfl, block_lt h, fun j u hu => by rw [Nat.zero_add]; exact cell_of h j u (by rw [byA, List.getElem?_toArray]; exact hu)⟩
theorem same64 (W : World) (p q : Nat) (xs : List UInt8) (h1 : DigAt W p xs) (h2 : DigAt W q xs) :
    Calls Tryd.prog 11 #[.slice (some ⟨p, 0, none⟩) 64 64, .slice (some ⟨q, 0, none⟩) 64 64] W (fun e W' => e = .returned (.bool true) ∧ ∃ n, W' = W.drewN n) := by
  have h := Same_any (some ⟨p, 0, none⟩) (longB xs) 64 (some ⟨q, 0, none⟩) (longB xs) 64 W W.heap.size W.heap.size (lieL_block h1) (lieL_block h2) (by rw [longB_length]; omega)
  rw [longB_length, show (longB xs == longB xs) = true from beq_self_eq_true _] at h
  exact h

end Go.Proofs.YtokggppfobbblaaDoor

namespace Go.Proofs.YtokggppfobbblaaDoor
open Go.RowKit Go.ChangeShapes Go.WideShapes
set_option linter.unusedVariables false
set_option linter.unusedSimpArgs false

def laidLong : List (String × DataW Unit) := [("ratline/long.beginnings", Rows.laid_ratline_long_beginnings), ("ratline/long.constants", Rows.laid_ratline_long_constants)]
theorem gBegL : Tryd.prog.globalNamed "ratline/long.beginnings" = some 1 := by kernel_rfl
theorem gConL : Tryd.prog.globalNamed "ratline/long.constants" = some 3 := by kernel_rfl
theorem tBegL : (Tryd.prog.globals[1]?).map (·.type) = some 68 := by kernel_rfl
theorem tConL : (Tryd.prog.globals[3]?).map (·.type) = some 88 := by kernel_rfl
theorem datBegL : (Rows.laid_ratline_long_beginnings : DataW Unit) = Lib.tabData .u64 (ints ivL.list) := by kernel_rfl
theorem datConL : (Rows.laid_ratline_long_constants : DataW Unit) = Lib.tabData .u64 (ints kTabL) := by kernel_rfl
theorem ints_cellsL (xs : List Nat) : (ints xs).map (fun z => Value.int .u64 z) = uvs xs := by simp [ints, uvs]

theorem door_metL (os : Os) (args : Array Value) : laidMetH Tryd.prog laidLong ((World.doorLaid Tryd.prog 400 os).forCall (fun _ _ => 0) ⟨#[], args, []⟩).memory :=
  laidMetH_of_parts3 (fuel := 8) (laidMet_of_run' 8 (by kernel_rfl) (by kernel_rfl)) (by kernel_rfl) (by kernel_rfl)

/-- What the condition gives the walks. -/
theorem globL_of_laid {W : World} (h : laidMetH Tryd.prog laidLong W) : GlobL W := by
  rw [MakeChecks.laidMetH_plain _ _ _ (by kernel_rfl)] at h
  obtain ⟨ps, ⟨g0, t0, cs0, f0, p0, q0, hg0, ht0, hv0, hd0, ⟨g1, t1, cs1, f1, p1, q1, hg1, ht1, hv1, hd1, _, _⟩, _⟩, _, _⟩ := h
  obtain rfl := Option.some.inj (gBegL.symm.trans hg0)
  obtain rfl := Option.some.inj (gConL.symm.trans hg1)
  obtain rfl := Option.some.inj (tBegL.symm.trans ht0)
  obtain rfl := Option.some.inj (tConL.symm.trans ht1)
  rw [datBegL] at hd0
  rw [datConL] at hd1
  have h0 := Lib.cells_of_tab Tryd.underlying68 Tryd.underlying52 (by kernel_rfl) (by kernel_rfl) hd0
  have h1 := Lib.cells_of_tab Tryd.underlying88 Tryd.underlying52 (by kernel_rfl) (by kernel_rfl) hd1
  rw [ints_cellsL] at h0 h1
  have c0 : ∀ j v, (stL ivL)[j]? = some v → W.cell? ⟨1, j, none⟩ = some v := fun j v hv => by
    rw [World.var?_cell hg0 hv0 j, ← Array.getElem?_toList, h0]
    rw [stL, List.getElem?_toArray] at hv
    exact hv
  have c1 : ∀ j, j < 80 → W.cell? ⟨3, j, none⟩ = some (.int .u64 ((kTabL.getD j 0 : Nat) : Int)) := fun j hj => by
    rw [World.var?_cell hg1 hv1 j, ← Array.getElem?_toList, h1, uvs, List.getElem?_map, List.getD_eq_getElem?_getD, List.getElem?_eq_getElem (by rw [kTabL_length]; exact hj)]
    rfl
  exact ⟨c1, c0, World.block_lt_of_cell? W _ (c1 0 (by omega)), World.block_lt_of_cell? W _ (c0 0 _ rfl)⟩
end Go.Proofs.YtokggppfobbblaaDoor

namespace Go.Proofs.YtokggppfobbblaaDoor
open Go.RowKit
set_option linter.unusedVariables false
set_option linter.unusedSimpArgs false

set_option maxRecDepth 100000 in
set_option maxHeartbeats 1600000 in
theorem longIs_any (A : Option Addr) (a : List UInt8) (c : Nat) (A' : Option Addr) (b : List UInt8) (c' : Nat) (w : World) (hA : Sq w w.heap.size A c (bvs a)) (hA' : Sq w w.heap.size A' c' (bvs b)) (hG : GlobL w) :
    Calls Tryd.prog 5 #[.slice A a.length c, .slice A' b.length c'] w fun e w' => e = .returned (.bool true) ∧ Below w.heap.size w w' := by
  have hc1 := hA.cap; have hc2 := hA'.cap
  rw [bvs_length] at hc1 hc2
  obtain ⟨hc1, hc1'⟩ := hc1; obtain ⟨hc2, hc2'⟩ := hc2
  have HA := hid hA; have HA' := hid hA'; have HG := hid hG
  clear hA hA' hG
  by_cases h1 : 200 < a.length
  · have hx : (200 : Int) < (a.length : Int) := by omega
    go_enter Tryd.func5, Tryd.ntmps5
    go_wp2_with fail
    refine (aliveL_any _ HG.out).mono ?_
    rintro e w1 ⟨rfl, hb1⟩
    go_wp2
    go_ret
    exact ⟨rfl, hb1⟩
  have hx1 : ¬ (200 : Int) < (a.length : Int) := by omega
  have hx1' : decide ((200 : Int) < (a.length : Int)) = false := by simpa using hx1
  by_cases h2 : 200 < b.length
  · have hx : (200 : Int) < (b.length : Int) := by omega
    go_enter Tryd.func5, Tryd.ntmps5
    go_wp2_with fail
    refine (aliveL_any _ HG.out).mono ?_
    rintro e w1 ⟨rfl, hb1⟩
    go_wp2
    go_ret
    exact ⟨rfl, hb1⟩
  have hx2 : ¬ (200 : Int) < (b.length : Int) := by omega
  have hx2' : decide ((200 : Int) < (b.length : Int)) = false := by simpa using hx2
  go_enter Tryd.func5, Tryd.ntmps5
  go_wp2_with fail
  refine (aliveL_any _ HG.out).mono ?_
  rintro e w1 ⟨rfl, hb1⟩
  have hw1 := hb1.size
  have hAl1 : Lie (w1.alloc (.cells #[] 5)) w.heap.size A (bvs a) := (HA.out.lie.below hb1).alloc hw1 _
  have HAL1 := hid hAl1; have HB1 := hid hb1
  clear hAl1 hb1
  go_wp2_with (at_builtin; refine wpList_append_lie rfl _ _ 22 rfl w1.heap.size 5 (.int .u8 0) 1 Tryd.underlying22 infoU8 rfl rfl (empty_row _ _ (k := w1.heap.size) rfl (Nat.le_refl _)) (bvs_length a) rfl HAL1.out (bvs_one a) ?d1 ?d2 ?d3 ?_)
  case d1 => unfold maxLen; omega
  case d2 => omega
  case d3 => simp
  intro v2 w2 hown2 hg2 hat2
  have hO2 : OwnB w2 w1.heap.size v2 a := by simpa [OwnB] using hown2
  have hB2 : Below w.heap.size w w2 := (HB1.out.alloc hw1 _).grown hg2 (by simp; omega) (fun q h => by simp [Value.ownBlock] at h; omega)
  have hw2 : w1.heap.size < w2.heap.size := Nat.lt_of_lt_of_le (by simp) hg2.size
  obtain ⟨A2, c2, rfl, _⟩ := own_sl hO2
  have HAL2 : Hid (Lie w2 w.heap.size A' (bvs b)) := hid (HA'.out.lie.below hB2)
  have HB2 := hid hB2; have HO2 := hid hO2
  clear hB2 hO2 hown2 hg2 hat2 HAL1
  go_wp2_with (at_builtin; refine wpList_append_lie rfl _ _ 22 rfl w1.heap.size 5 (.int .u8 0) 1 Tryd.underlying22 infoU8 rfl rfl HO2.out (bvs_length b) rfl HAL2.out (bvs_one b) ?e1 ?e2 ?e3 ?_)
  case e1 => unfold maxLen; omega
  case e2 => omega
  case e3 => omega
  intro v3 w3 hown3 hg3 hat3
  have hO3 : OwnB w3 w1.heap.size v3 (a ++ b) := by unfold OwnB; rw [bvs_append, List.length_append]; exact hown3
  have hB3 : Below w.heap.size w w3 := HB2.out.grown hg3 HB2.out.size (fun q h => by have := own_lt HO2.out q h; omega)
  obtain ⟨A3, c3, rfl, hS3⟩ := own_sl hO3
  have HSUM := hid (SumL_any A3 (a ++ b) c3 w3 (by rw [List.length_append]; omega) hS3.sq (HG.out.below hB3 (Nat.le_refl _)))
  have HREF : Hid (∀ W, Below w3.heap.size w3 W → Calls Tryd.prog 17 #[.slice A3 (a.length + b.length) c3] W (fun e W' => ∃ v, e = .returned v ∧ OwnB W' W.heap.size v (longB (a ++ b)) ∧ Below W.heap.size W W')) := hid fun W hW => by
    have h := sum3_any A3 (a ++ b) c3 W (by rw [List.length_append]; omega) ((hS3.sq.below hW).more hW.size)
    rw [List.length_append] at h
    exact h
  have HB3 := hid hB3
  rw [List.length_append] at HSUM
  rw [List.length_append]
  clear hown3 hg3 hat3 hO3 hB3 hS3 HAL2 HO2
  go_wp2_with fail
  refine HSUM.out.mono ?_
  rintro e w6 ⟨rfl, hb6⟩
  obtain ⟨d, hd⟩ : ∃ d, d = byA (longB (a ++ b)) := ⟨_, rfl⟩
  have hdz : d.size = 64 := by rw [hd]; simp [byA, longB_length]
  have hdo : d.all (·.oneCell') = true := by rw [hd]; exact byA_one _
  rw [← hd]
  have HI : Hid ((Tryd.prog.info? 30).map (·.size) = some d.size) := hid ((show (Tryd.prog.info? 30).map (·.size) = some 64 by kernel_rfl).trans (congrArg some hdz.symm))
  have HDO := hid hdo
  have HZ : Hid ((#[Value.int .u8 0, .int .u8 0, .int .u8 0, .int .u8 0, .int .u8 0, .int .u8 0, .int .u8 0, .int .u8 0, .int .u8 0, .int .u8 0, .int .u8 0, .int .u8 0, .int .u8 0, .int .u8 0, .int .u8 0, .int .u8 0, .int .u8 0, .int .u8 0, .int .u8 0, .int .u8 0, .int .u8 0, .int .u8 0, .int .u8 0, .int .u8 0, .int .u8 0, .int .u8 0, .int .u8 0, .int .u8 0, .int .u8 0, .int .u8 0, .int .u8 0, .int .u8 0, .int .u8 0, .int .u8 0, .int .u8 0, .int .u8 0, .int .u8 0, .int .u8 0, .int .u8 0, .int .u8 0, .int .u8 0, .int .u8 0, .int .u8 0, .int .u8 0, .int .u8 0, .int .u8 0, .int .u8 0, .int .u8 0, .int .u8 0, .int .u8 0, .int .u8 0, .int .u8 0, .int .u8 0, .int .u8 0, .int .u8 0, .int .u8 0, .int .u8 0, .int .u8 0, .int .u8 0, .int .u8 0, .int .u8 0, .int .u8 0, .int .u8 0, .int .u8 0] : Array Value).size = d.size) := hid hdz.symm
  have hB6 : Below w.heap.size w w6 := HB3.out.trans (hb6.mono HB3.out.size)
  have HR6 := hid hb6
  have HDD := hid hd; have HB6 := hid hB6
  clear hb6 hd hdz hdo hB6 HSUM
  go_wp2_with (first
    | fail
    | (with_reducible refine wpList_store_row rfl 30 (.tmp 6) _ rfl w6.heap.size d rfl rfl A64B _ (heap_alloc_new _ _) HI.out HZ.out HDO.out ?_; rw [World.setRow_alloc_new]))
  obtain ⟨w8, hw8⟩ : ∃ w8, w8 = w6.alloc (.cells d A64B) := ⟨_, rfl⟩
  obtain ⟨D, hD⟩ : ∃ D, D = w6.heap.size := ⟨_, rfl⟩
  have HB8 : Hid (Below w.heap.size w w8) := hid (by rw [hw8]; exact HB6.out.alloc HB6.out.size _)
  have HD8 : Hid (w8.heap[D]? = some (.cells (byA (longB (a ++ b))) A64B (0, 0))) := hid (by rw [hw8, hD, HDD.out]; exact heap_alloc_new _ _)
  have HR8 : Hid (Below w3.heap.size w3 w8) := hid (by rw [hw8]; exact HR6.out.alloc HR6.out.size _)
  rw [← hw8, ← hD]
  have hDl : D < w8.heap.size := block_lt HD8.out
  have HOF2 : Hid (∀ W, Below w8.heap.size w8 W → Calls Tryd.prog 18 #[.slice (some ⟨W.heap.size, 0, none⟩) 2 2] (W.alloc (.cells #[.slice A a.length c, .slice A' b.length c'] 22)) (fun e W' => ∃ b', e = .returned (.slice (some ⟨b', 0, none⟩) 64 64) ∧ DigAt W' b' (a ++ b) ∧ W.heap.size < b' ∧ Below W.heap.size W W')) := hid fun W hW => by
    have hB : Below w.heap.size w W := HB8.out.trans (hW.mono HB8.out.size)
    have hpa : Sq W W.heap.size A c (bvs a) := (HA.out.below hB).more hB.size
    have hpb : Sq W W.heap.size A' c' (bvs b) := (HA'.out.below hB).more hB.size
    have h := ofsL_any [(A, a, c), (A', b, c')] W (by
      intro p hp
      simp only [List.mem_cons, List.not_mem_nil, or_false] at hp
      rcases hp with rfl | rfl
      · exact hpa
      · exact hpb) (HG.out.below hB (Nat.le_refl _)) (by simp; omega) (by simp)
    simp only [List.map_cons, List.map_nil, List.flatten_cons, List.flatten_nil, List.append_nil, List.nil_append, List.length_cons, List.length_nil] at h
    exact h
  have HOF3 : Hid (∀ W, Below w8.heap.size w8 W → Calls Tryd.prog 18 #[.slice (some ⟨W.heap.size, 0, none⟩) 3 3] (W.alloc (.cells #[.slice A a.length c, .slice none 0 0, .slice A' b.length c'] 22)) (fun e W' => ∃ b', e = .returned (.slice (some ⟨b', 0, none⟩) 64 64) ∧ DigAt W' b' (a ++ b) ∧ W.heap.size < b' ∧ Below W.heap.size W W')) := hid fun W hW => by
    have hB : Below w.heap.size w W := HB8.out.trans (hW.mono HB8.out.size)
    have hpa : Sq W W.heap.size A c (bvs a) := (HA.out.below hB).more hB.size
    have hpb : Sq W W.heap.size A' c' (bvs b) := (HA'.out.below hB).more hB.size
    have h := ofsL_any [(A, a, c), (none, [], 0), (A', b, c')] W (by
      intro p hp
      simp only [List.mem_cons, List.not_mem_nil, or_false] at hp
      rcases hp with rfl | rfl | rfl
      · exact hpa
      · exact .inl ⟨rfl, by simp⟩
      · exact hpb) (HG.out.below hB (Nat.le_refl _)) (by simp; omega) (by simp)
    simp only [List.map_cons, List.map_nil, List.flatten_cons, List.flatten_nil, List.append_nil, List.nil_append, List.length_cons, List.length_nil] at h
    exact h
  have HRS : Hid (∀ W, Below w8.heap.size w8 W → Calls Tryd.prog 17 #[.slice A3 (a.length + b.length) c3] W (fun e W' => ∃ v, e = .returned v ∧ OwnB W' W.heap.size v (longB (a ++ b)) ∧ Below W.heap.size W W')) := hid fun W hW => HREF.out W (HR8.out.trans (hW.mono HR8.out.size))
  clear hw8 hD HB6 HI HDO HZ HREF HR6
  refine wp_region_any (by kernel_rfl) ?_
  change wpAny _ _ _ _ _ _ _ (World.drew _)
  obtain ⟨wd, hwd⟩ : ∃ wd, wd = w8.drew := ⟨_, rfl⟩
  have HBD : Hid (Below w8.heap.size w8 wd) := hid (by rw [hwd]; exact (Below.refl _ _).drew)
  rw [← hwd]
  clear hwd
  refine wpAny_take (i := 1) (v := ?vv1) rfl (by kernel_rfl) (by kernel_rfl) (by kernel_rfl) (fun _ _ _ h => h) (Or.inl ⟨by rfl, ?hy1⟩) ?_
  case hy1 => (intro w'; go_simp; try with_reducible rfl)
  try go_simp
  refine wpAny_take (i := 0) (v := ?vv0) rfl (by kernel_rfl) (by kernel_rfl) (by kernel_rfl) (fun _ _ _ h => h) (Or.inl ⟨by rfl, ?hy0⟩) ?_
  case hy0 => (intro w'; go_simp; try with_reducible rfl)
  try go_simp
  refine wpAny_ready (rs := [2]) (by kernel_rfl) (by simp) ?_
  refine AllReady.cons rfl (fun K hK => ?_) AllReady.nil
  go_simp
  go_at_call 17
  with_reducible refine (HRS.out wd HBD.out).mono ?_
  rintro e w9 ⟨v9, rfl, ho9, hb9⟩
  obtain ⟨A9, c9, rfl, hS9⟩ := own_sl ho9
  rw [longB_length]
  try go_simp
  refine hK _ _ ?_
  clear hK K
  refine wpAny_ready (rs := [3]) (by kernel_rfl) (by simp) ?_
  refine AllReady.cons rfl (fun K hK => ?_) AllReady.nil
  go_simp
  go_at_call 11
  have hB9 : Below w8.heap.size w8 w9 := HBD.out.trans (hb9.mono HBD.out.size)
  with_reducible refine (Same_32 (some ⟨D, 0, none⟩) (longB (a ++ b)) 64 A9 (longB (a ++ b)) c9 w9 w9.heap.size w9.heap.size 64 (lie_block ((hB9.block D hDl).trans HD8.out)) hS9.lie (longB_length _) (longB_length _) (by omega)).mono ?_
  rw [show (longB (a ++ b) == longB (a ++ b)) = true from beq_self_eq_true _]
  rintro e wx ⟨rfl, n10, rfl⟩
  obtain ⟨wf, hwf⟩ : ∃ wf, wf = w9.drewN n10 := ⟨_, rfl⟩
  have HBF : Hid (Below w8.heap.size w8 wf) := hid (by rw [hwf]; exact below_drewN hB9 n10)
  rw [← hwf]
  clear hwf hB9
  try go_simp
  refine hK _ _ ?_
  clear hK K
  refine wpAny_take (i := 4) (v := ?vv4) rfl (by kernel_rfl) (by kernel_rfl) (by kernel_rfl) (fun _ _ _ h => h) (Or.inl ⟨by rfl, ?hy4⟩) ?_
  case hy4 => (intro w'; go_simp; try with_reducible rfl)
  try go_simp
  refine wpAny_take (i := 5) (v := ?vv5) rfl (by kernel_rfl) (by kernel_rfl) (by kernel_rfl) (fun _ _ _ h => h) (Or.inl ⟨by rfl, ?hy5⟩) ?_
  case hy5 => (intro w'; go_simp; try with_reducible rfl)
  try go_simp
  refine wpAny_take (i := 6) (v := ?vv6) rfl (by kernel_rfl) (by kernel_rfl) (by kernel_rfl) (fun _ _ _ h => h) (Or.inl ⟨by rfl, ?hy6⟩) ?_
  case hy6 => (intro w'; go_simp; try with_reducible rfl)
  try go_simp
  refine wpAny_take (i := 9) (v := ?vv9) rfl (by kernel_rfl) (by kernel_rfl) (by kernel_rfl) (fun _ _ _ h => h) (Or.inl ⟨by rfl, ?hy9⟩) ?_
  case hy9 => (intro w'; go_simp; try with_reducible rfl)
  try go_simp
  refine wpAny_ready (rs := [7]) (by kernel_rfl) (by simp) ?_
  refine AllReady.cons rfl (fun K hK => ?_) AllReady.nil
  go_simp
  try go_simp
  refine hK _ _ ?_
  clear hK K
  refine wpAny_ready (rs := [8]) (by kernel_rfl) (by simp) ?_
  refine AllReady.cons rfl (fun K hK => ?_) AllReady.nil
  go_simp
  go_at_call 18
  with_reducible refine (HOF2.out wf HBF.out).mono ?_
  rintro e wg ⟨b9, rfl, hk9, hz9, hbg⟩
  try go_simp
  refine hK _ _ ?_
  clear hK K
  refine wpAny_ready (rs := [10]) (by kernel_rfl) (by simp) ?_
  refine AllReady.cons rfl (fun K hK => ?_) AllReady.nil
  go_simp
  go_at_call 11
  have hBg : Below w8.heap.size w8 wg := HBF.out.trans (hbg.mono HBF.out.size)
  have hdg : DigAt wg D (a ++ b) := (hBg.block D hDl).trans HD8.out
  with_reducible refine (same64 wg b9 D (a ++ b) hk9 hdg).mono ?_
  rintro e wx ⟨rfl, n11, rfl⟩
  obtain ⟨wh, hwh⟩ : ∃ wh, wh = wg.drewN n11 := ⟨_, rfl⟩
  have HBH : Hid (Below w8.heap.size w8 wh) := hid (by rw [hwh]; exact below_drewN hBg n11)
  rw [← hwh]
  clear hwh hBg hk9 hz9 hbg
  try go_simp
  refine hK _ _ ?_
  clear hK K
  refine wpAny_take (i := 11) (v := ?vv11) rfl (by kernel_rfl) (by kernel_rfl) (by kernel_rfl) (fun _ _ _ h => h) (Or.inl ⟨by rfl, ?hy11⟩) ?_
  case hy11 => (intro w'; go_simp; try with_reducible rfl)
  try go_simp
  refine wpAny_take (i := 12) (v := ?vv12) rfl (by kernel_rfl) (by kernel_rfl) (by kernel_rfl) (fun _ _ _ h => h) (Or.inl ⟨by rfl, ?hy12⟩) ?_
  case hy12 => (intro w'; go_simp; try with_reducible rfl)
  try go_simp
  refine wpAny_take (i := 13) (v := ?vv13) rfl (by kernel_rfl) (by kernel_rfl) (by kernel_rfl) (fun _ _ _ h => h) (Or.inl ⟨by rfl, ?hy13⟩) ?_
  case hy13 => (intro w'; go_simp; try with_reducible rfl)
  try go_simp
  refine wpAny_take (i := 14) (v := ?vv14) rfl (by kernel_rfl) (by kernel_rfl) (by kernel_rfl) (fun _ _ _ h => h) (Or.inl ⟨by rfl, ?hy14⟩) ?_
  case hy14 => (intro w'; go_simp; try with_reducible rfl)
  try go_simp
  refine wpAny_take (i := 17) (v := ?vv17) rfl (by kernel_rfl) (by kernel_rfl) (by kernel_rfl) (fun _ _ _ h => h) (Or.inl ⟨by rfl, ?hy17⟩) ?_
  case hy17 => (intro w'; go_simp; try with_reducible rfl)
  try go_simp
  refine wpAny_ready (rs := [15]) (by kernel_rfl) (by simp) ?_
  refine AllReady.cons rfl (fun K hK => ?_) AllReady.nil
  go_simp
  try go_simp
  refine hK _ _ ?_
  clear hK K
  refine wpAny_ready (rs := [16]) (by kernel_rfl) (by simp) ?_
  refine AllReady.cons rfl (fun K hK => ?_) AllReady.nil
  go_simp
  go_at_call 18
  with_reducible refine (HOF3.out wh HBH.out).mono ?_
  rintro e wi ⟨b10, rfl, hk10, hz10, hbi⟩
  try go_simp
  refine hK _ _ ?_
  clear hK K
  refine wpAny_ready (rs := [18]) (by kernel_rfl) (by simp) ?_
  refine AllReady.cons rfl (fun K hK => ?_) AllReady.nil
  go_simp
  go_at_call 11
  have hBi : Below w8.heap.size w8 wi := HBH.out.trans (hbi.mono HBH.out.size)
  have hdi : DigAt wi D (a ++ b) := (hBi.block D hDl).trans HD8.out
  with_reducible refine (same64 wi b10 D (a ++ b) hk10 hdi).mono ?_
  rintro e wx ⟨rfl, n12, rfl⟩
  try go_simp
  refine hK _ _ ?_
  clear hK K
  refine wpAny_take (i := 19) (v := ?vv19) rfl (by kernel_rfl) (by kernel_rfl) (by kernel_rfl) (fun _ _ _ h => h) (Or.inl ⟨by rfl, ?hy19⟩) ?_
  case hy19 => (intro w'; go_simp; try with_reducible rfl)
  try go_simp
  refine wpAny_take (i := 20) (v := ?vv20) rfl (by kernel_rfl) (by kernel_rfl) (by kernel_rfl) (fun _ _ _ h => h) (Or.inl ⟨by rfl, ?hy20⟩) ?_
  case hy20 => (intro w'; go_simp; try with_reducible rfl)
  try go_simp
  refine wpAny_done (by kernel_rfl) ?_ _
  have HEND : Hid (∀ n, Below w.heap.size w (wi.drewN n)) := hid fun n => below_drewN (HB8.out.trans (hBi.mono HB8.out.size)) n
  go_wp2
  go_ret
  exact ⟨rfl, HEND.out _⟩
end Go.Proofs.YtokggppfobbblaaDoor

namespace Go.Proofs.YtokggppfobbblaaDoor.lawLongIs
open Go.ChangeShapes Go.WideShapes Go.ChangeAt Go.RowKit
set_option linter.unusedVariables false

theorem own : ownKnob Tryd.prog.godebug = none := by kernel_rfl
theorem laidOut : laidOutB Tryd.prog = true := by kernel_rfl

set_option maxRecDepth 100000 in
theorem lifted (os : Os) (started : os.Started) (H : Type) (enc : TypeId × Value → H) :
    ReturnsInHanded {} Tryd.checked os 5 .any (fun w args => (Rows.longIsSpec.pre enc Tryd.prog Tryd.f5 [] false w args ∧ laidMetH Tryd.prog laidLong w) ∧ sizedMet enc Tryd.prog Tryd.f5 (OpenSpec.ofChange Rows.longIsSpec) false w args)
      (Rows.longIsSpec.post enc Tryd.prog Tryd.f5 false true false false) := by
  refine returnsInHanded_of_change_and (C := Tryd.checked) (X := fun w _ => laidMetH Tryd.prog laidLong w) (fun _ _ _ hh h => h.of_heap hh) own started (by kernel_rfl) Tryd.func5
    (ChangeSpec.witness_shaped (enc := enc) (C := Tryd.checked) (os := os) (X := fun w _ => laidMetH Tryd.prog laidLong w) false (World.doorLaid Tryd.prog 400 os) #[.slice none 0 0, .slice none 0 0] 8 rfl (World.shaped_of_RefB (by kernel_rfl) (by kernel_rfl)) (by kernel_rfl) (by kernel_rfl) (by kernel_rfl) (door_metL os _)) ?_
  intro W base args ds gs before hval0 hW _ _ hL _
  have hval : ∀ (j : Nat) t v, Tryd.f5.params[j]? = some t → args[j]? = some v → Value.okWide Tryd.prog W .any base t v := hval0
  have hW' := hW
  obtain ⟨p, q, hA0, hV, rfl, hfz, hnd⟩ := hW
  have hA : DataW.TrodAll enc Tryd.prog W 0 (fun _ => true) true Tryd.f5.params.toList args.toList ds p := hA0
  rw [Tryd.params5] at hA hval
  obtain ⟨v0, vs0, d0, ds0, p0, q0, hargs, rfl, rfl, h0, r0⟩ := trodAll_cons hA
  obtain ⟨v1, vs1, d1, ds1, p1, q1, rfl, rfl, rfl, h1, r1⟩ := trodAll_cons r0
  obtain ⟨rfl, rfl, rfl⟩ := trodAll_nil r1
  obtain rfl : args = #[v0, v1] := by cases args; simp_all
  obtain ⟨rfl, rfl⟩ := trodVars_none hV
  obtain ⟨a0, len0, cap0, rfl⟩ := okWide_slice Tryd.underlying22 (hval 0 22 v0 rfl rfl)
  obtain ⟨a1, len1, cap1, rfl⟩ := okWide_slice Tryd.underlying22 (hval 1 22 v1 rfl rfl)
  have k0 := h0
  have k1 := h1
  have lt0 : ∀ x ∈ p0, x.block < W.heap.size := by obtain ⟨m, hm⟩ := k0; exact DataW.trod_lt m _ _ _ hm
  have lt1 : ∀ x ∈ p1, x.block < W.heap.size := by obtain ⟨m, hm⟩ := k1; exact DataW.trod_lt m _ _ _ hm
  obtain ⟨x0, rfl, hS0⟩ : ∃ xs : List UInt8, len0 = xs.length ∧ Sq W W.heap.size a0 cap0 (bvs xs) := by
    obtain ⟨fuel, hf⟩ := h0
    obtain ⟨A, c, xs, hcs, hS⟩ := open_bytes_sq hf
    simp [Value.cells] at hcs
    obtain ⟨rfl, rfl, rfl⟩ := hcs
    exact ⟨xs, rfl, hS⟩
  obtain ⟨x1, rfl, hS1⟩ : ∃ xs : List UInt8, len1 = xs.length ∧ Sq W W.heap.size a1 cap1 (bvs xs) := by
    obtain ⟨fuel, hf⟩ := h1
    obtain ⟨A, c, xs, hcs, hS⟩ := open_bytes_sq hf
    simp [Value.cells] at hcs
    obtain ⟨rfl, rfl, rfl⟩ := hcs
    exact ⟨xs, rfl, hS⟩
  clear hA0 hval0
  refine (longIs_any a0 x0 cap0 a1 x1 cap1 W hS0 hS1 (globL_of_laid hL)).mono fun e W' ⟨he, bel⟩ => ?_
  subst he
  exact ⟨_, rfl, _, _, _, [], _, [], hW', trodAll_mk1 (shut_bool Tryd.underlying4 _), (trodAll_cons_mk (Below.trod laidOut (by kernel_rfl) (of_decide_eq_true (by kernel_rfl)) k0 bel lt0) (trodAll_cons_mk (Below.trod laidOut (by kernel_rfl) (of_decide_eq_true (by kernel_rfl)) k1 bel lt1) trodAll_mk0)), rfl, bel.frame _, fun h => by cases h⟩

theorem over : Rows.longIsRow.holds Tryd.pinned (OpenSpec.ofChange Rows.longIsSpec) :=
  OpenClaim.holds_of_wide 5 Tryd.f5 rfl rfl rfl rfl rfl rfl rfl ⟨rfl, rfl, rfl, rfl, rfl⟩ rfl rfl rfl rfl rfl (by kernel_rfl) Tryd.func5 (by kernel_rfl)
    (of_decide_eq_true (by kernel_rfl)) (by unfold Func.isWrapper; first | (rw [if_pos (by decide +kernel)]; kernel_rfl) | (rw [if_neg (by decide +kernel)]; exact ⟨rfl, rfl⟩))
    (fun os started H enc _ => lifted os started H enc)

theorem proved : Rows.LongIsCardSaid :=
  Claim7.holds_tied_plain_at .later [] [.data, .data] true Rows.longIsCard.stood.harness false
    over (fun _ h => by cases h) (by kernel_rfl) (fun _ h => by cases h) longIs_row_tie rfl ⟨rfl, rfl⟩ (by kernel_rfl) rfl
    (fun f fn hf hfn => by
      obtain rfl : f = 5 := Option.some.inj ((show Tryd.prog.funcNamed "ratline/ratlinelaw03.LongIs" = some 5 by kernel_rfl).symm.trans hf) |>.symm
      obtain rfl : fn = Tryd.f5 := (Option.some.inj (Tryd.func5.symm.trans hfn)).symm
      exact ⟨by kernel_rfl, fun j t ht => by
        rw [Tryd.params5] at ht
        have hm : t ∈ [22, 22] := by simpa using Array.mem_of_getElem? ht
        have hall : ([22, 22].all fun u => !Tryd.prog.wantsStandIn u) = true := by kernel_rfl
        exact (show Tryd.prog.wantsStandIn t = false by simpa using List.all_eq_true.1 hall t hm)⟩)
    (by kernel_rfl)
#print axioms proved
end Go.Proofs.YtokggppfobbblaaDoor.lawLongIs
