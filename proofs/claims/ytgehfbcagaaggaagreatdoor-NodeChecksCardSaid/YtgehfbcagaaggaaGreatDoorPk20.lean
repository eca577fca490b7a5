/-
  Texts of this claim in one file: CvI, CvM.
-/
import Derived.Test.YtgehfbcagaaggaaGreatDoorPk19
import Derived.Test.YtgehfbcagaaggaaGreatDoorPk7
import Derived.Test.YtgehfbcagaaggaaGreatDoorPk18
section
namespace Go.Proofs.YtgehfbcagaaggaaGreatDoor
open Go Go.RowKit
set_option linter.unusedVariables false
set_option linter.unusedSimpArgs false
/-- A row of cells tells a point, as the code holds it: its x, and how much its y is above 1. -/
structure PtV (v : Array Value) (p : Pt) : Prop where
  on : p.on
  is : v = cP p.x (p.y - 1)
theorem PtV.info {v : Array Value} {p : Pt} (h : PtV v p) : (Tryz.prog.info? PT).map (·.size) = some v.size := by rw [h.is]; exact infoPc _ _
theorem PtV.one {v : Array Value} {p : Pt} (h : PtV v p) : v.all (·.oneCell') = true := by rw [h.is]; exact cP_one _ _
theorem PtV.all {v : Array Value} {p : Pt} (h : PtV v p) : v.extract 0 (0 + v.size) = v := by simp
/-- A zero P. -/
def zP : Array Value := cP 0 0
theorem zP_is : PtV zP Pt.zero := ⟨Pt.zero_on, rfl⟩
theorem zeroP : (Tryz.prog.info? PT).map (fun i => (i.zero, i.size)) = some (some (.agg zP), 8) := zeroPc
theorem PtV.size {v : Array Value} {p : Pt} (h : PtV v p) : zP.size = v.size := by rw [h.is]; exact (cP_size _ _).trans (cP_size _ _).symm
theorem PtV.size2 {v u : Array Value} {p q : Pt} (h : PtV v p) (k : PtV u q) : v.size = u.size := by rw [← h.size, ← k.size]
/-- A call that answers a point. -/
abbrev PtC (f : FuncId) (args : Array Value) (p : Pt) : Prop := ∃ u, PtV u p ∧ Hid (∀ W : World, Calls Tryz.prog f args W fun e w' => e = .returned (.agg u) ∧ Below W.heap.size W w')
theorem sub_one_add (y : FF) : y = y - 1 + 1 := by grobner
theorem rootN_lt (x : Nat) : rootN x < pp := by
  unfold rootN
  split
  · exact rt3_lt x
  · exact pp_pos
theorem of_len {A : Option Addr} {c : Nat} {xs : List UInt8} (w : World) (hl : xs.length ≠ 32) : Calls Tryz.prog 52 #[.slice A xs.length c] w fun e w' => e = .returned (.tuple #[.agg (cP 0 0), .bool false]) ∧ Below w.heap.size w w' := by
  have hli : ((xs.length : Int) == 32) = false := by rw [beq_eq_false_iff_ne]; omega
  have hl2 : ¬ (xs.length : Int) = 32 := by omega
  have Z0 : (w.alloc (.cells (cP 0 0) PT)).heap[w.heap.size]? = some (.cells (cP 0 0) PT (0, 0)) := blkN rfl _ _
  have HZ := hid Z0
  clear hl Z0
  go_enter Tryz.func52, Tryz.ntmps52
  go_upto_region 0 with fail
  refine wpLA_start ?_
  refine wpLA_alloc (by rfl) rfl zeroPc ?_
  intro p1 w1 hp hz hb
  have S1 : Hid (St w w1 [(p1, cP 0 0, PT)] []) := hid ((St.start w).alloc hb hp hz)
  clear hp hz hb HZ
  (try simp only [Act.put, List.getElem_toArray, List.getElem_cons_succ, List.getElem_cons_zero, List.setIfInBounds_toArray, List.set_cons_zero, List.set_cons_succ])
  refine wpLA_take (.bool false) (yG_val _ (by rfl) (fun w' _ => by (go_simp; try rfl))) ?_
  (try simp only [Act.put, List.getElem_toArray, List.getElem_cons_succ, List.getElem_cons_zero, List.setIfInBounds_toArray, List.set_cons_zero, List.set_cons_succ])
  refine wpLA_end ?_
  intro w2 hb
  have S2 := hid (S1.out.on hb)
  clear hb S1
  go_upto_region 2 with fail
  refine wpLA_start ?_
  refine wpLA_take (.agg (cP 0 0)) (yG_build (by rfl) PT _ rfl [] rfl _ builtP0) ?_
  (try simp only [Act.put, List.getElem_toArray, List.getElem_cons_succ, List.getElem_cons_zero, List.setIfInBounds_toArray, List.set_cons_zero, List.set_cons_succ])
  refine wpLA_store rfl PT (.tmp 2) (.tmp 11) rfl p1 (cP 0 0) rfl rfl PT (cP 0 0) S2.out.cl.1 (infoPc 0 0) rfl (cP_one 0 0) ?_
  intro wx hb
  have S3 : Hid (St w (wx.setRow p1 (cP 0 0)) [(p1, cP 0 0, PT)] []) := hid ((S2.out.on hb).put0 0 rfl)
  clear hb S2
  generalize wx.setRow p1 (cP 0 0) = w3 at S3 ⊢
  (try simp only [Act.put, List.getElem_toArray, List.getElem_cons_succ, List.getElem_cons_zero, List.setIfInBounds_toArray, List.set_cons_zero, List.set_cons_succ])
  refine wpLA_take (.bool false) (yG_val _ (by rfl) (fun w' _ => by (go_simp; try rfl))) ?_
  (try simp only [Act.put, List.getElem_toArray, List.getElem_cons_succ, List.getElem_cons_zero, List.setIfInBounds_toArray, List.set_cons_zero, List.set_cons_succ])
  refine wpLA_end ?_
  intro w4 hb
  have S4 := hid (S3.out.on hb)
  clear hb S3
  go_wp2_with fail
  exact bodyPost_ret (v := .tuple #[.agg (cP 0 0), .bool false]) (results_cell_tmp rfl _ _ ⟨p1, 0, none⟩ _ _ rfl rfl (run_loadVar_row _ p1 PT PT _ (0, 0) _ S4.out.cl.1 Tryz.underlying82 rfl (infoPc 0 0))) rfl ⟨rfl, S4.out.below⟩
theorem CvOf (xs : List UInt8) (hlm : xs.length ≤ 9223372036854775807) : ∃ u, PtV u (ptO xs) ∧ Hid (∀ (A : Option Addr) (c : Nat) (W : World), Sq W W.heap.size A c (bvs xs) → Calls Tryz.prog 52 #[.slice A xs.length c] W fun e w' => e = .returned (.tuple #[.agg u, .bool (ptOf xs).isSome]) ∧ Below W.heap.size W w') := by
  refine ⟨cP (ptO xs).x ((ptO xs).y - 1), ⟨ptO_on xs, rfl⟩, hid fun A c W hS => ?_⟩
  by_cases hl : xs.length = 32
  · obtain ⟨z, hz⟩ : ∃ z, xs[31]? = some z := ⟨_, List.getElem?_eq_getElem (by omega)⟩
    obtain ⟨b, o, rfl, -⟩ := hS.form (by rw [bvs_length]; omega)
    obtain ⟨y, hy⟩ : ∃ y, y = ofF xs := ⟨_, rfl⟩
    obtain ⟨R, hR⟩ : ∃ R : FF, R.val = rootN (sqX y).val := ⟨⟨rootN (sqX y).val, rootN_lt _⟩, rfl⟩
    by_cases ht : rt2 (sqX y).val * rt2 (sqX y).val % pp = (sqX y).val
    · have key := fun x hx => of_some (x := x) hz hy hR ht hx
      have ht' : true = decide (rt2 (sqX y).val * rt2 (sqX y).val % pp = (sqX y).val) := (decide_eq_true ht).symm
      by_cases hb : 128 ≤ z.toNat
      · obtain ⟨hon, hp⟩ := key (-R) (by rw [if_pos hb])
        by_cases hq : ptBytes (-R) y = xs
        · rw [if_pos hq] at hp
          have := of_he (x := -R) (r := y - 1) b o c W hS hl hz hy hR ht' hb rfl rfl (decide_eq_true hq)
          unfold ptO
          rw [hp, hl]
          exact this
        · rw [if_neg hq] at hp
          have := of_hn (x := -R) (r := y - 1) b o c W hS hl hz hy hR ht' hb rfl rfl (decide_eq_false hq)
          unfold ptO
          rw [hp, hl]
          exact this
      · obtain ⟨hon, hp⟩ := key R (by rw [if_neg hb])
        by_cases hq : ptBytes R y = xs
        · rw [if_pos hq] at hp
          have := of_le (x := R) (r := y - 1) b o c W hS hl hz hy hR ht' hb rfl rfl (decide_eq_true hq)
          unfold ptO
          rw [hp, hl]
          exact this
        · rw [if_neg hq] at hp
          have := of_ln (x := R) (r := y - 1) b o c W hS hl hz hy hR ht' hb rfl rfl (decide_eq_false hq)
          unfold ptO
          rw [hp, hl]
          exact this
    · have hp := of_none (xs := xs) (by rw [← hy]; exact ht)
      have := of_f (x := 0) (r := 0) b o c W hS hl hz hy hR (decide_eq_false ht).symm
      unfold ptO
      rw [hp, hl]
      exact this
  · have := of_len (A := A) (c := c) W hl
    unfold ptO
    rw [ptOf_len hl]
    exact this
theorem CvBase : PtC 49 #[] Gb := ⟨_, ⟨Gb_on, rfl⟩, baseC rfl⟩
theorem CvAdd {v u : Array Value} {p q : Pt} (hv : PtV v p) (hu : PtV u q) : PtC 55 #[.agg v, .agg u] (p.add q) := by
  obtain ⟨hp, rfl⟩ := hv
  obtain ⟨hq, rfl⟩ := hu
  have h := ex_point (ex_and (ex_at p) hp hq rfl rfl rfl rfl rfl rfl rfl rfl rfl rfl rfl)
  exact ⟨_, ⟨Pt.add_on hp hq, rfl⟩, addC (x := p.x) (a := p.y - 1) (x2 := q.x) (a2 := q.y - 1) (y := p.y) (y2 := q.y) (sub_one_add _) rfl (sub_one_add _) rfl rfl rfl rfl rfl rfl rfl rfl rfl rfl h.1.symm (by rw [h.2])⟩
theorem CvSame {v u : Array Value} {p q : Pt} (hv : PtV v p) (hu : PtV u q) : Hid (∀ W : World, Calls Tryz.prog 54 #[.agg v, .agg u] W fun e w' => e = .returned (.bool (decide (p = q))) ∧ Below W.heap.size W w') := by
  obtain ⟨hp, rfl⟩ := hv
  obtain ⟨hq, rfl⟩ := hu
  by_cases hx : p.x = q.x
  · refine sameT (decide_eq_true hx).symm (decide_eq_decide.2 ⟨fun h => by rw [h], fun h => Pt.ext' hx ?_⟩)
    generalize p.y = a at *
    generalize q.y = b at *
    grobner
  · rw [decide_eq_false (fun h => hx (by rw [h]))]
    exact sameFc (decide_eq_false hx).symm
theorem CvBytes {v : Array Value} {p : Pt} (hv : PtV v p) : Hid (∀ W : World, Calls Tryz.prog 51 #[.agg v] W fun e w' => ∃ b, e = .returned b ∧ OwnB w' W.heap.size b (pB p) ∧ Below W.heap.size W w') := by
  obtain ⟨hp, rfl⟩ := hv
  exact bytesC (sub_one_add _)
end Go.Proofs.YtgehfbcagaaggaaGreatDoor
end
section
namespace Go.Proofs.YtgehfbcagaaggaaGreatDoor
open Go Go.RowKit
theorem CvMul {v : Array Value} {p : Pt} (hv : PtV v p) (n : SF) : PtC 50 #[.agg v, .agg (sF n)] (Pt.times n.val p) := by
  obtain ⟨hp, rfl⟩ := hv
  exact ⟨_, ⟨Pt.times_on hp _, rfl⟩, hid fun W => mulC hp rfl rfl n W⟩
end Go.Proofs.YtgehfbcagaaggaaGreatDoor
end
