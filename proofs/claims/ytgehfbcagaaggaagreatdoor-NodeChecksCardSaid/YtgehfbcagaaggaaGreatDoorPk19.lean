/-
  Texts of this claim in one file: CuO.
-/
import Derived.Test.YtgehfbcagaaggaaGreatDoorPk4
import Derived.Test.YtgehfbcagaaggaaGreatDoorPk0
import Derived.Test.YtgehfbcagaaggaaGreatDoorPk18
import Derived.Test.YtgehfbcagaaggaaGreatDoorPk11
import Derived.Test.YtgehfbcagaaggaaGreatDoorPk29
import Derived.Test.YtgehfbcagaaggaaGreatDoorPkE
section
namespace Go.Proofs.YtgehfbcagaaggaaGreatDoor
section
open Go Go.RowKit
set_option linter.unusedVariables false
set_option linter.unusedSimpArgs false
theorem own_is {w : World} {B : Nat} {v : Value} {xs : List UInt8} (h : OwnB w B v xs) (hn : 0 < xs.length) :
    ∃ g c C, v = .slice (some ⟨g, 0, none⟩) xs.length c ∧ B ≤ g ∧ w.heap[g]? = some (.cells C 5 (0, 0)) ∧ C.size = c ∧ C.toList.take xs.length = bvs xs ∧ xs.length ≤ c ∧ c ≤ 9223372036854775807 := by
  obtain ⟨_, h⟩ := h
  rcases h with ⟨_, h⟩ | ⟨g, c, C, h1, h2, h3, h4, h5, h6, h7⟩
  · omega
  · exact ⟨g, c, C, h1, h2, h3, by omega, by simpa using h7, h4, h5⟩
theorem own_mk {w : World} {B g c : Nat} {C : Array Value} (hg : w.heap[g]? = some (.cells C 5 (0, 0))) (hB : B ≤ g) (h0 : 32 ≤ c) (h1 : c ≤ 9223372036854775807) (hs : C.size = c) {n : Nat} (ht : C.toList.take 32 = bvs (leB 32 n)) : OwnB w B (.slice (some ⟨g, 0, none⟩) 32 c) (leB 32 n) := by
  refine ⟨by rw [bvs_length, leB_length], .inr ⟨g, c, C, by rw [leB_length], hB, hg, by rw [leB_length]; exact h0, h1, by omega, ?_⟩⟩
  rw [leB_length]; exact ht
theorem own_at {C : Array Value} {xs : List UInt8} {z : Nat} (h : C.toList.take 32 = bvs xs) (hz : xs[31]? = some (UInt8.ofNat z) ∧ z < 256) : C[31]? = some (.int .u8 (z : Int)) := by
  have h1 : (C.toList.take 32)[31]? = C.toList[31]? := List.getElem?_take_of_lt (by decide)
  rw [h] at h1
  rw [← Array.getElem?_toList, ← h1]
  unfold bvs
  rw [List.getElem?_map, hz.1]
  simp [UInt8.toNat_ofNat', Nat.mod_eq_of_lt hz.2]
theorem own_set {C : Array Value} {xs ys : List UInt8} {z : Nat} (h : C.toList.take 32 = bvs xs) (hz : xs.set 31 (UInt8.ofNat (z + 128)) = ys ∧ z + 128 < 256) : (C.setIfInBounds 31 (.int .u8 ((z + 128 : Nat) : Int))).toList.take 32 = bvs ys := by
  rw [Array.toList_setIfInBounds, ← hz.1, List.take_set, h]
  unfold bvs
  rw [List.map_set]
  simp [UInt8.toNat_ofNat', Nat.mod_eq_of_lt hz.2]
theorem frozen_of {w : World} {g : Nat} {C : Array Value} {e : TypeId} (h : w.heap[g]? = some (.cells C e (0, 0))) (j : Nat) : w.frozen? ⟨g, j, none⟩ = false := frozen_of_row w g j C e h
theorem St.cell {w w1 : World} {L : List (Nat × Array Value × TypeId)} (h : St w w1 L []) (i j : Nat) (u : Value) {p : Nat} {old : Array Value} {t : TypeId} (hi : L[i]? = some (p, old, t)) : St w (w1.setCell ⟨p, j, none⟩ u) (L.set i (p, old.setIfInBounds j u, t)) [] := by
  have hr := h.put0 i hi (X := old.setIfInBounds j u)
  have hm : (p, old, t) ∈ L := List.mem_of_getElem? hi
  have hc : w1.heap[p]? = some (.cells old t (0, 0)) := by
    clear hr
    have h2 := h.cl
    clear h
    induction L generalizing i with
    | nil => cases hm
    | cons q L ih =>
      rcases List.mem_cons.1 hm with rfl | hm
      · exact h2.1
      · cases i with
        | zero => simp only [List.getElem?_cons_zero, Option.some.injEq] at hi; subst hi; exact h2.1
        | succ i => exact ih i (by simpa using hi) hm h2.2
  rw [setCell_eq_setRow w1 p j old t (0, 0) u hc]
  exact hr
theorem or_128 {z : Nat} (h : z < 128) : bits .or .u8 (z : Int) 128 = ((z + 128 : Nat) : Int) := by
  have : ∀ n : Fin 128, bits .or .u8 ((n.val : Nat) : Int) 128 = ((n.val + 128 : Nat) : Int) := by decide +kernel
  exact this ⟨z, h⟩
set_option maxHeartbeats 1000000 in
theorem bytes_odd {x a y : FF} {z : Nat} (hy : y = a + 1) (hx : x.val % 2 = 1) (hz : z < 128 ∧ ((leB 32 y.val)[31]? = some (UInt8.ofNat z) ∧ z < 256) ∧ ((leB 32 y.val).set 31 (UInt8.ofNat (z + 128)) = leB 32 (y.val + 57896044618658097711785492504343953926634992332820282019728792003956564819968) ∧ z + 128 < 256)) (w : World) : Calls Tryz.prog 51 #[.agg (cP x a)] w fun e w' => ∃ v, e = .returned v ∧ OwnB w' w.heap.size v (leB 32 (y.val + 57896044618658097711785492504343953926634992332820282019728792003956564819968)) ∧ Below w.heap.size w w' := by
  have KY := yC (x := x) (a := a) hy
  have KB := bytesE y
  have KO := oddE x
  rw [decide_eq_true hx] at KO
  have HZ := hid hz
  clear hy hx hz
  go_enter Tryz.func51, Tryz.ntmps51
  have S0 : Hid (St w w [] []) := hid (St.start w)
  go_upto_region 0 with fail
  refine wpLA_start ?_
  refine wpLA_box (cP x a) (by rfl) rfl rfl ?_
  intro p1 w1 hp hz hb
  have S1 : Hid (St w w1 [(p1, cP x a, PT)] []) := hid (S0.out.alloc hb hp hz)
  clear hp hz hb S0
  (try simp only [Act.put, List.getElem_toArray, List.getElem_cons_succ, List.getElem_cons_zero, List.setIfInBounds_toArray, List.set_cons_zero, List.set_cons_succ])
  refine wpLA_take (.slice none 0 0) (yG_val _ (by rfl) (fun w' _ => by (go_simp; try rfl))) ?_
  (try simp only [Act.put, List.getElem_toArray, List.getElem_cons_succ, List.getElem_cons_zero, List.setIfInBounds_toArray, List.set_cons_zero, List.set_cons_succ])
  refine wpLA_end ?_
  intro w2 hb
  have S2 := hid (S1.out.on hb)
  clear hb S1
  go_upto_region 1 with fail
  refine wpLA_start ?_
  refine wpLA_take (.agg (cP x a)) (yG_part (by rfl) PT (.tmp 1) rfl p1 0 rfl PT (cP x a) (cP x a) (0, 0) _ S2.out.cl.1 (cP_all x a) Tryz.underlying82 rfl (infoPc x a)) ?_
  (try simp only [Act.put, List.getElem_toArray, List.getElem_cons_succ, List.getElem_cons_zero, List.setIfInBounds_toArray, List.set_cons_zero, List.set_cons_succ])
  refine wpLA_take (.agg (eF y)) (yG_call (by rfl) (fun w' => by go_simp) (fun w' hb => KY.out w')) ?_
  (try simp only [Act.put, List.getElem_toArray, List.getElem_cons_succ, List.getElem_cons_zero, List.setIfInBounds_toArray, List.set_cons_zero, List.set_cons_succ])
  refine wpLA_call (fun w' v w'' => OwnB w'' w'.heap.size v (leB 32 y.val) ∧ Below w'.heap.size w' w'') (by rfl) (fun w' => by go_simp) (fun w' hb => (KB.out w').mono (fun e w'' h => h)) ?_
  intro wx v w3 hb hk
  obtain ⟨g3, c3, C3, hv, hg0, hgc, hsz, htk, hc0, hc1⟩ := own_is hk.1 (by rw [leB_length]; decide)
  rw [leB_length] at hv htk
  subst hv
  have S3 : Hid (St w w3 [(g3, C3, 5), (p1, cP x a, PT)] []) := hid ((S2.out.on hb).alloc hk.2 hg0 hgc)
  have O3 : Hid (C3.size = c3 ∧ C3.toList.take 32 = bvs (leB 32 y.val) ∧ 32 ≤ c3 ∧ c3 ≤ 9223372036854775807) := hid ⟨hsz, htk, hc0, hc1⟩
  clear hk hb hg0 hgc hsz htk hc0 hc1 S2
  (try simp only [Act.put, List.getElem_toArray, List.getElem_cons_succ, List.getElem_cons_zero, List.setIfInBounds_toArray, List.set_cons_zero, List.set_cons_succ])
  refine wpLA_take (.slice (some ⟨g3, 0, none⟩) 32 c3) (yG_val _ (by rfl) (fun w' _ => by (go_simp; try rfl))) ?_
  (try simp only [Act.put, List.getElem_toArray, List.getElem_cons_succ, List.getElem_cons_zero, List.setIfInBounds_toArray, List.set_cons_zero, List.set_cons_succ])
  refine wpLA_end ?_
  intro w4 hb
  have S4 := hid (S3.out.on hb)
  clear hb S3
  go_upto_region 2 with fail
  refine wpLA_start ?_
  refine wpLA_take (.pointer (some ⟨p1, 0, none⟩)) (yG_val _ (by rfl) (fun w' _ => by (go_simp; try rfl))) ?_
  (try simp only [Act.put, List.getElem_toArray, List.getElem_cons_succ, List.getElem_cons_zero, List.setIfInBounds_toArray, List.set_cons_zero, List.set_cons_succ])
  refine wpLA_take (.agg (eF x)) (yG_part (by rfl) ET (.tmp 7) rfl p1 0 rfl PT (cP x a) (eF x) (0, 0) _ S4.out.cl.2.1 (cP_0 x a) Tryz.underlying80 rfl (infoF x)) ?_
  (try simp only [Act.put, List.getElem_toArray, List.getElem_cons_succ, List.getElem_cons_zero, List.setIfInBounds_toArray, List.set_cons_zero, List.set_cons_succ])
  refine wpLA_take (.bool true) (yG_call (by rfl) (fun w' => by go_simp) (fun w' hb => KO.out w')) ?_
  (try simp only [Act.put, List.getElem_toArray, List.getElem_cons_succ, List.getElem_cons_zero, List.setIfInBounds_toArray, List.set_cons_zero, List.set_cons_succ])
  refine wpLA_end ?_
  intro w5 hb
  have S5 := hid (S4.out.on hb)
  clear hb S4
  have hb := S5.out.cl.1
  have hc : w5.cell? ⟨g3, 31, none⟩ = some (.int .u8 (z : Int)) := cell_of hb 31 _ (own_at O3.out.2.1 HZ.out.2.1)
  have hf : w5.frozen? ⟨g3, 31, none⟩ = false := frozen_of hb 31
  have hor := or_128 HZ.out.1
  clear hb
  go_wp2_with fail
  clear hor hc hf
  go_ret
  have S9 := S5.out.cell 0 31 (.int .u8 ((z + 128 : Nat) : Int)) rfl
  refine ⟨_, rfl, ?_, S9.below⟩
  refine own_mk S9.cl.1 (S9.own _ (List.mem_cons_self)) O3.out.2.2.1 O3.out.2.2.2 (by simpa using O3.out.1) ?_
  exact own_set O3.out.2.1 HZ.out.2.2
set_option maxHeartbeats 1000000 in
theorem bytes_even {x a y : FF} (hy : y = a + 1) (hx : ¬ x.val % 2 = 1) (w : World) : Calls Tryz.prog 51 #[.agg (cP x a)] w fun e w' => ∃ v, e = .returned v ∧ OwnB w' w.heap.size v (leB 32 y.val) ∧ Below w.heap.size w w' := by
  have KY := yC (x := x) (a := a) hy
  have KB := bytesE y
  have KO := oddE x
  rw [decide_eq_false hx] at KO
  clear hy hx
  go_enter Tryz.func51, Tryz.ntmps51
  have S0 : Hid (St w w [] []) := hid (St.start w)
  go_upto_region 0 with fail
  refine wpLA_start ?_
  refine wpLA_box (cP x a) (by rfl) rfl rfl ?_
  intro p1 w1 hp hz hb
  have S1 : Hid (St w w1 [(p1, cP x a, PT)] []) := hid (S0.out.alloc hb hp hz)
  clear hp hz hb S0
  (try simp only [Act.put, List.getElem_toArray, List.getElem_cons_succ, List.getElem_cons_zero, List.setIfInBounds_toArray, List.set_cons_zero, List.set_cons_succ])
  refine wpLA_take (.slice none 0 0) (yG_val _ (by rfl) (fun w' _ => by (go_simp; try rfl))) ?_
  (try simp only [Act.put, List.getElem_toArray, List.getElem_cons_succ, List.getElem_cons_zero, List.setIfInBounds_toArray, List.set_cons_zero, List.set_cons_succ])
  refine wpLA_end ?_
  intro w2 hb
  have S2 := hid (S1.out.on hb)
  clear hb S1
  go_upto_region 1 with fail
  refine wpLA_start ?_
  refine wpLA_take (.agg (cP x a)) (yG_part (by rfl) PT (.tmp 1) rfl p1 0 rfl PT (cP x a) (cP x a) (0, 0) _ S2.out.cl.1 (cP_all x a) Tryz.underlying82 rfl (infoPc x a)) ?_
  (try simp only [Act.put, List.getElem_toArray, List.getElem_cons_succ, List.getElem_cons_zero, List.setIfInBounds_toArray, List.set_cons_zero, List.set_cons_succ])
  refine wpLA_take (.agg (eF y)) (yG_call (by rfl) (fun w' => by go_simp) (fun w' hb => KY.out w')) ?_
  (try simp only [Act.put, List.getElem_toArray, List.getElem_cons_succ, List.getElem_cons_zero, List.setIfInBounds_toArray, List.set_cons_zero, List.set_cons_succ])
  refine wpLA_call (fun w' v w'' => OwnB w'' w'.heap.size v (leB 32 y.val) ∧ Below w'.heap.size w' w'') (by rfl) (fun w' => by go_simp) (fun w' hb => (KB.out w').mono (fun e w'' h => h)) ?_
  intro wx v w3 hb hk
  obtain ⟨g3, c3, C3, hv, hg0, hgc, hsz, htk, hc0, hc1⟩ := own_is hk.1 (by rw [leB_length]; decide)
  rw [leB_length] at hv htk
  subst hv
  have S3 : Hid (St w w3 [(g3, C3, 5), (p1, cP x a, PT)] []) := hid ((S2.out.on hb).alloc hk.2 hg0 hgc)
  have O3 : Hid (C3.size = c3 ∧ C3.toList.take 32 = bvs (leB 32 y.val) ∧ 32 ≤ c3 ∧ c3 ≤ 9223372036854775807) := hid ⟨hsz, htk, hc0, hc1⟩
  clear hk hb hg0 hgc hsz htk hc0 hc1 S2
  (try simp only [Act.put, List.getElem_toArray, List.getElem_cons_succ, List.getElem_cons_zero, List.setIfInBounds_toArray, List.set_cons_zero, List.set_cons_succ])
  refine wpLA_take (.slice (some ⟨g3, 0, none⟩) 32 c3) (yG_val _ (by rfl) (fun w' _ => by (go_simp; try rfl))) ?_
  (try simp only [Act.put, List.getElem_toArray, List.getElem_cons_succ, List.getElem_cons_zero, List.setIfInBounds_toArray, List.set_cons_zero, List.set_cons_succ])
  refine wpLA_end ?_
  intro w4 hb
  have S4 := hid (S3.out.on hb)
  clear hb S3
  go_upto_region 2 with fail
  refine wpLA_start ?_
  refine wpLA_take (.pointer (some ⟨p1, 0, none⟩)) (yG_val _ (by rfl) (fun w' _ => by (go_simp; try rfl))) ?_
  (try simp only [Act.put, List.getElem_toArray, List.getElem_cons_succ, List.getElem_cons_zero, List.setIfInBounds_toArray, List.set_cons_zero, List.set_cons_succ])
  refine wpLA_take (.agg (eF x)) (yG_part (by rfl) ET (.tmp 7) rfl p1 0 rfl PT (cP x a) (eF x) (0, 0) _ S4.out.cl.2.1 (cP_0 x a) Tryz.underlying80 rfl (infoF x)) ?_
  (try simp only [Act.put, List.getElem_toArray, List.getElem_cons_succ, List.getElem_cons_zero, List.setIfInBounds_toArray, List.set_cons_zero, List.set_cons_succ])
  refine wpLA_take (.bool false) (yG_call (by rfl) (fun w' => by go_simp) (fun w' hb => KO.out w')) ?_
  (try simp only [Act.put, List.getElem_toArray, List.getElem_cons_succ, List.getElem_cons_zero, List.setIfInBounds_toArray, List.set_cons_zero, List.set_cons_succ])
  refine wpLA_end ?_
  intro w5 hb
  have S5 := hid (S4.out.on hb)
  clear hb S4
  go_wp2_with fail
  go_ret
  refine ⟨_, rfl, ?_, S5.out.below⟩
  exact own_mk S5.out.cl.1 (S5.out.own _ (List.mem_cons_self)) O3.out.2.2.1 O3.out.2.2.2 O3.out.1 O3.out.2.1
theorem bytesC {x a y : FF} (hy : y = a + 1) : Hid (∀ W : World, Calls Tryz.prog 51 #[.agg (cP x a)] W fun e w' => ∃ v, e = .returned v ∧ OwnB w' W.heap.size v (ptBytes x y) ∧ Below W.heap.size W w') := hid fun W => by
  unfold ptBytes
  by_cases hx : x.val % 2 = 1
  · obtain ⟨h1, h2, h3⟩ := leB_high y.val (FF_255 y)
    rw [hx, Nat.one_mul]
    exact bytes_odd hy hx ⟨h3, ⟨h2, by omega⟩, h1, by omega⟩ W
  · have h0 : x.val % 2 = 0 := by omega
    rw [h0, Nat.zero_mul, Nat.add_zero]
    exact bytes_even hy hx W
end
section
open Go Go.RowKit
set_option linter.unusedVariables false
set_option linter.unusedSimpArgs false
theorem sq_byte {w : World} {B c b o : Nat} {xs : List UInt8} {z : UInt8} {j : Nat} (h : Sq w B (some ⟨b, o, none⟩) c (bvs xs)) (hz : xs[j]? = some z) : w.cell? ⟨b, o + j, none⟩ = some (.int .u8 (z.toNat : Int)) := by
  rcases h with ⟨h, _⟩ | ⟨b', o', hA, _, _, _, hc⟩
  · have : xs = [] := by unfold bvs at h; simpa using h
    rw [this] at hz; cases hz
  · simp only [Option.some.injEq, Addr.mk.injEq] at hA
    obtain ⟨rfl, rfl, _⟩ := hA
    refine hc j _ ?_
    unfold bvs
    rw [List.getElem?_map, hz]; rfl
theorem of_num {xs : List UInt8} {q : Pt} (h : pB q = xs) : ofF xs = q.y := by
  refine Fin.ext ?_
  show leN (xs.take 32) % 57896044618658097711785492504343953926634992332820282019728792003956564819968 % pp = q.y.val
  have hl : xs.length = 32 := by rw [← h]; exact pB_length q
  rw [List.take_of_length_le (by omega), ← h]
  unfold pB
  rw [ptBytes_num, Nat.add_mul_mod_self_right, Nat.mod_eq_of_lt (FF_255 q.y)]
  exact Nat.mod_eq_of_lt q.y.isLt
theorem of_bit {xs : List UInt8} {q : Pt} {z : UInt8} (h : pB q = xs) (hz : xs[31]? = some z) : 128 ≤ z.toNat ↔ q.x.val % 2 = 1 := by
  have hl : xs.length = 32 := by rw [← h]; exact pB_length q
  have hn : leN xs = q.y.val + q.x.val % 2 * 57896044618658097711785492504343953926634992332820282019728792003956564819968 := by rw [← h]; exact ptBytes_num q.x q.y
  have hg := leN_get xs 31 (by omega)
  have hz2 : xs[31] = z := by rw [List.getElem?_eq_getElem (by omega)] at hz; exact Option.some.inj hz
  rw [hz2, hn] at hg
  have e : (57896044618658097711785492504343953926634992332820282019728792003956564819968 : Nat) = 128 * 256 ^ 31 := by decide +kernel
  have hy := FF_255 q.y
  have hd : q.y.val / 256 ^ 31 < 128 := by
    rw [Nat.div_lt_iff_lt_mul (by decide +kernel), ← e]
    exact hy
  rw [e, ← Nat.mul_assoc, Nat.add_mul_div_right _ _ (by decide +kernel)] at hg
  generalize q.y.val / 256 ^ 31 = k at *
  have hb : q.x.val % 2 < 2 := Nat.mod_lt _ (by omega)
  clear e hy hn hz hz2
  omega
theorem sq_root {R s : FF} (hR : R.val = rootN s.val) (ht : rt2 s.val * rt2 s.val % pp = s.val) : R * R = s ∧ R.val % 2 = 0 := by
  unfold rootN at hR
  rw [if_pos ht] at hR
  refine ⟨Fin.ext ?_, by rw [hR]; exact rt3_even _⟩
  rw [Fin.val_mul, hR]
  exact rt3_sq ht
theorem of_none {xs : List UInt8} (ht : ¬ rt2 (sqX (ofF xs)).val * rt2 (sqX (ofF xs)).val % pp = (sqX (ofF xs)).val) : ptOf xs = none := by
  cases h : ptOf xs with
  | none => rfl
  | some q =>
    exfalso
    obtain ⟨hq, hb⟩ := ptOf_some h
    refine ht ?_
    rw [of_num hb, sqX_pt hq, Fin.val_mul]
    exact (rt_of_sq q.x.isLt).1
theorem FF_neg_odd' {r : FF} (h : r ≠ 0) : (-r).val % 2 = 1 - r.val % 2 := by
  rw [FF_negv r h]
  have h1 := r.isLt
  have h0 : r.val ≠ 0 := fun e => h (Fin.ext e)
  omega
/-- Where there is a root. -/
theorem of_some {xs : List UInt8} {z : UInt8} {R x y : FF} (hz : xs[31]? = some z) (hy : y = ofF xs) (hR : R.val = rootN (sqX y).val) (ht : rt2 (sqX y).val * rt2 (sqX y).val % pp = (sqX y).val) (hx : x = if 128 ≤ z.toNat then -R else R) :
    (⟨x, y⟩ : Pt).on ∧ ptOf xs = if ptBytes x y = xs then some ⟨x, y⟩ else none := by
  obtain ⟨h1, h2⟩ := sq_root hR ht
  have hxx : x * x = sqX y := by
    rw [← h1, hx]
    split
    · grobner
    · rfl
  have hon := pt_sqX hxx (den_all y)
  refine ⟨hon, ?_⟩
  split
  · next h =>
    have := ptOf_bytes hon
    rw [show pB ⟨x, y⟩ = xs from h] at this
    exact this
  · next h =>
    cases hp : ptOf xs with
    | none => rfl
    | some q =>
      exfalso
      obtain ⟨hq, hb⟩ := ptOf_some hp
      refine h ?_
      have ey : y = q.y := by rw [hy]; exact of_num hb
      have hbit := of_bit hb hz
      have hRR : R * R = q.x * q.x := by rw [h1, ey]; exact sqX_pt hq
      have ex : x = q.x := by
        rcases two_x hRR with e | e
        · by_cases h0 : q.x = 0
          · rw [hx, e, h0]; split <;> decide +kernel
          · rw [e] at h2
            rw [hx, if_neg (by rw [hbit]; omega), e]
        · by_cases h0 : q.x = 0
          · rw [hx, e, h0]; split <;> decide +kernel
          · have h3 := FF_neg_odd' h0
            rw [e] at h2
            rw [hx, if_pos (by rw [hbit]; omega), e]
            grobner
      rw [ex, ey]
      exact hb
theorem and_128 (z : UInt8) : bits .and .u8 (z.toNat : Int) 128 = if 128 ≤ z.toNat then 128 else 0 := by
  have : ∀ n : Fin 256, bits .and .u8 ((n.val : Nat) : Int) 128 = if 128 ≤ n.val then 128 else 0 := by decide +kernel
  exact this ⟨z.toNat, z.toNat_lt⟩
set_option maxHeartbeats 1000000 in
theorem of_f {y x r R : FF} {z : UInt8} (b o c : Nat) (w : World) {xs : List UInt8} (hS : Sq w w.heap.size (some ⟨b, o, none⟩) c (bvs xs)) (hl : xs.length = 32) (hz : xs[31]? = some z) (hy : y = ofF xs) (hR : R.val = rootN (sqX y).val) (ht : false = decide (rt2 (sqX y).val * rt2 (sqX y).val % pp = (sqX y).val)) : Calls Tryz.prog 52 #[.slice (some ⟨b, o, none⟩) 32 c] w fun e w' => e = .returned (.tuple #[.agg (cP 0 0), .bool false]) ∧ Below w.heap.size w w' := by
  have KF := ofE hy
  rw [hl] at KF
  obtain ⟨r1, h1⟩ : ∃ v : FF, v = y * y := ⟨_, rfl⟩
  obtain ⟨r6, h6⟩ : ∃ v : FF, v = sqX y := ⟨_, rfl⟩
  rw [← h6] at hR ht
  have KE := evenC (y := y) h1 rfl rfl rfl rfl (h6.trans (by rw [h1]; rfl)) hR ht
  have HS := hid hS; have HZ := hid hz
  clear hS hl hz hy hR ht h1 h6
  go_enter Tryz.func52, Tryz.ntmps52
  have S0 : Hid (St w w [] []) := hid (St.start w)
  go_upto_region 0 with fail
  refine wpLA_start ?_
  refine wpLA_alloc (by rfl) rfl zeroPc ?_
  intro p1 w1 hp hz hb
  have S1 : Hid (St w w1 [(p1, cP 0 0, PT)] []) := hid (S0.out.alloc hb hp hz)
  clear hp hz hb S0
  (try simp only [Act.put, List.getElem_toArray, List.getElem_cons_succ, List.getElem_cons_zero, List.setIfInBounds_toArray, List.set_cons_zero, List.set_cons_succ])
  refine wpLA_take (.bool false) (yG_val _ (by rfl) (fun w' _ => by (go_simp; try rfl))) ?_
  (try simp only [Act.put, List.getElem_toArray, List.getElem_cons_succ, List.getElem_cons_zero, List.setIfInBounds_toArray, List.set_cons_zero, List.set_cons_succ])
  refine wpLA_end ?_
  intro w2 hb
  have S2 := hid (S1.out.on hb)
  clear hb S1
  go_upto_region 1 with fail
  refine wpLA_start ?_
  refine wpLA_take (.slice (some ⟨b, o, none⟩) 32 c) (yG_val _ (by rfl) (fun w' _ => by (go_simp; try rfl))) ?_
  (try simp only [Act.put, List.getElem_toArray, List.getElem_cons_succ, List.getElem_cons_zero, List.setIfInBounds_toArray, List.set_cons_zero, List.set_cons_succ])
  refine wpLA_take (.int .i64 32) (yG_val _ (by rfl) (fun w' _ => by (go_simp; try rfl))) ?_
  (try simp only [Act.put, List.getElem_toArray, List.getElem_cons_succ, List.getElem_cons_zero, List.setIfInBounds_toArray, List.set_cons_zero, List.set_cons_succ])
  refine wpLA_take (.bool false) (yG_val _ (by rfl) (fun w' _ => by (go_simp; try rfl))) ?_
  (try simp only [Act.put, List.getElem_toArray, List.getElem_cons_succ, List.getElem_cons_zero, List.setIfInBounds_toArray, List.set_cons_zero, List.set_cons_succ])
  refine wpLA_end ?_
  intro w3 hb
  have S3 := hid (S2.out.on hb)
  clear hb S2
  go_upto_region 3 with fail
  refine wpLA_start ?_
  refine wpLA_take (.slice (some ⟨b, o, none⟩) 32 c) (yG_val _ (by rfl) (fun w' _ => by (go_simp; try rfl))) ?_
  (try simp only [Act.put, List.getElem_toArray, List.getElem_cons_succ, List.getElem_cons_zero, List.setIfInBounds_toArray, List.set_cons_zero, List.set_cons_succ])
  refine wpLA_take (.agg (eF y)) (yG_call (by rfl) (fun w' => by go_simp) (fun w' hb => KF.out _ _ w' (HS.out.on6 ((S3.out.on hb).below)))) ?_
  (try simp only [Act.put, List.getElem_toArray, List.getElem_cons_succ, List.getElem_cons_zero, List.setIfInBounds_toArray, List.set_cons_zero, List.set_cons_succ])
  refine wpLA_alloc (by rfl) rfl zeroF ?_
  intro p4 w4 hp hz hb
  have S4 : Hid (St w w4 [(p4, eF 0, ET), (p1, cP 0 0, PT)] []) := hid (S3.out.alloc hb hp hz)
  clear hp hz hb S3
  (try simp only [Act.put, List.getElem_toArray, List.getElem_cons_succ, List.getElem_cons_zero, List.setIfInBounds_toArray, List.set_cons_zero, List.set_cons_succ])
  refine wpLA_store rfl ET (.tmp 4) (.tmp 13) rfl p4 (eF y) rfl rfl ET (eF 0) S4.out.cl.1 (infoF y) ((eF_size 0).trans (eF_size y).symm) (eF_one y) ?_
  intro wx hb
  have S5 : Hid (St w (wx.setRow p4 (eF y)) [(p4, eF y, ET), (p1, cP 0 0, PT)] []) := hid ((S4.out.on hb).put0 0 rfl)
  clear hb S4
  generalize wx.setRow p4 (eF y) = w5 at S5 ⊢
  (try simp only [Act.put, List.getElem_toArray, List.getElem_cons_succ, List.getElem_cons_zero, List.setIfInBounds_toArray, List.set_cons_zero, List.set_cons_succ])
  refine wpLA_end ?_
  intro w6 hb
  have S6 := hid (S5.out.on hb)
  clear hb S5
  go_upto_region 4 with fail
  refine wpLA_start ?_
  refine wpLA_take (.agg (eF y)) (yG_part (by rfl) ET (.tmp 4) rfl p4 0 rfl ET (eF y) (eF y) (0, 0) _ S6.out.cl.1 (eF_all y) Tryz.underlying80 rfl (infoF y)) ?_
  (try simp only [Act.put, List.getElem_toArray, List.getElem_cons_succ, List.getElem_cons_zero, List.setIfInBounds_toArray, List.set_cons_zero, List.set_cons_succ])
  refine wpLA_take (.tuple #[(.agg (eF R)), (.bool false)]) (yG_call (by rfl) (fun w' => by go_simp) (fun w' hb => KE.out w')) ?_
  (try simp only [Act.put, List.getElem_toArray, List.getElem_cons_succ, List.getElem_cons_zero, List.setIfInBounds_toArray, List.set_cons_zero, List.set_cons_succ])
  refine wpLA_take (.tuple #[(.agg (eF R)), (.bool false)]) (yG_val _ (by rfl) (fun w' _ => by (go_simp; try rfl))) ?_
  (try simp only [Act.put, List.getElem_toArray, List.getElem_cons_succ, List.getElem_cons_zero, List.setIfInBounds_toArray, List.set_cons_zero, List.set_cons_succ])
  refine wpLA_take (.agg (eF R)) (yG_val _ (by rfl) (fun w' _ => by (go_simp; try rfl))) ?_
  (try simp only [Act.put, List.getElem_toArray, List.getElem_cons_succ, List.getElem_cons_zero, List.setIfInBounds_toArray, List.set_cons_zero, List.set_cons_succ])
  refine wpLA_take (.bool false) (yG_val _ (by rfl) (fun w' _ => by (go_simp; try rfl))) ?_
  (try simp only [Act.put, List.getElem_toArray, List.getElem_cons_succ, List.getElem_cons_zero, List.setIfInBounds_toArray, List.set_cons_zero, List.set_cons_succ])
  refine wpLA_alloc (by rfl) rfl zeroF ?_
  intro p7 w7 hp hz hb
  have S7 : Hid (St w w7 [(p7, eF 0, ET), (p4, eF y, ET), (p1, cP 0 0, PT)] []) := hid (S6.out.alloc hb hp hz)
  clear hp hz hb S6
  (try simp only [Act.put, List.getElem_toArray, List.getElem_cons_succ, List.getElem_cons_zero, List.setIfInBounds_toArray, List.set_cons_zero, List.set_cons_succ])
  refine wpLA_store rfl ET (.tmp 5) (.tmp 17) rfl p7 (eF R) rfl rfl ET (eF 0) S7.out.cl.1 (infoF R) ((eF_size 0).trans (eF_size R).symm) (eF_one R) ?_
  intro wx hb
  have S8 : Hid (St w (wx.setRow p7 (eF R)) [(p7, eF R, ET), (p4, eF y, ET), (p1, cP 0 0, PT)] []) := hid ((S7.out.on hb).put0 0 rfl)
  clear hb S7
  generalize wx.setRow p7 (eF R) = w8 at S8 ⊢
  (try simp only [Act.put, List.getElem_toArray, List.getElem_cons_succ, List.getElem_cons_zero, List.setIfInBounds_toArray, List.set_cons_zero, List.set_cons_succ])
  refine wpLA_take (.bool false) (yG_val _ (by rfl) (fun w' _ => by (go_simp; try rfl))) ?_
  (try simp only [Act.put, List.getElem_toArray, List.getElem_cons_succ, List.getElem_cons_zero, List.setIfInBounds_toArray, List.set_cons_zero, List.set_cons_succ])
  refine wpLA_end ?_
  intro w9 hb
  have S9 := hid (S8.out.on hb)
  clear hb S8
  go_upto_region 5 with fail
  refine wpLA_start ?_
  refine wpLA_take (.bool false) (yG_val _ (by rfl) (fun w' _ => by (go_simp; try rfl))) ?_
  (try simp only [Act.put, List.getElem_toArray, List.getElem_cons_succ, List.getElem_cons_zero, List.setIfInBounds_toArray, List.set_cons_zero, List.set_cons_succ])
  refine wpLA_take (.bool true) (yG_val _ (by rfl) (fun w' _ => by (go_simp; try rfl))) ?_
  (try simp only [Act.put, List.getElem_toArray, List.getElem_cons_succ, List.getElem_cons_zero, List.setIfInBounds_toArray, List.set_cons_zero, List.set_cons_succ])
  refine wpLA_end ?_
  intro w10 hb
  have S10 := hid (S9.out.on hb)
  clear hb S9
  go_upto_region 6 with fail
  refine wpLA_start ?_
  refine wpLA_take (.agg (cP 0 0)) (yG_build (by rfl) PT _ rfl [] rfl _ builtP0) ?_
  (try simp only [Act.put, List.getElem_toArray, List.getElem_cons_succ, List.getElem_cons_zero, List.setIfInBounds_toArray, List.set_cons_zero, List.set_cons_succ])
  refine wpLA_store rfl PT (.tmp 2) (.tmp 21) rfl p1 (cP 0 0) rfl rfl PT (cP 0 0) S10.out.cl.2.2.1 (infoPc 0 0) ((cP_size 0 0).trans (cP_size 0 0).symm) (cP_one 0 0) ?_
  intro wx hb
  have S11 : Hid (St w (wx.setRow p1 (cP 0 0)) [(p7, eF R, ET), (p4, eF y, ET), (p1, cP 0 0, PT)] []) := hid ((S10.out.on hb).put0 2 rfl)
  clear hb S10
  generalize wx.setRow p1 (cP 0 0) = w11 at S11 ⊢
  (try simp only [Act.put, List.getElem_toArray, List.getElem_cons_succ, List.getElem_cons_zero, List.setIfInBounds_toArray, List.set_cons_zero, List.set_cons_succ])
  refine wpLA_take (.bool false) (yG_val _ (by rfl) (fun w' _ => by (go_simp; try rfl))) ?_
  (try simp only [Act.put, List.getElem_toArray, List.getElem_cons_succ, List.getElem_cons_zero, List.setIfInBounds_toArray, List.set_cons_zero, List.set_cons_succ])
  refine wpLA_end ?_
  intro w12 hb
  have S12 := hid (S11.out.on hb)
  clear hb S11
  go_wp2_with fail
  exact bodyPost_ret (v := .tuple #[.agg (cP 0 0), .bool false]) (results_cell_tmp rfl _ _ ⟨p1, 0, none⟩ _ _ rfl rfl (run_loadVar_row _ p1 PT PT _ (0, 0) _ S12.out.cl.2.2.1 Tryz.underlying82 rfl (infoPc 0 0))) rfl ⟨rfl, S12.out.below⟩
set_option maxHeartbeats 1000000 in
theorem of_he {y x r R : FF} {z : UInt8} (b o c : Nat) (w : World) {xs : List UInt8} (hS : Sq w w.heap.size (some ⟨b, o, none⟩) c (bvs xs)) (hl : xs.length = 32) (hz : xs[31]? = some z) (hy : y = ofF xs) (hR : R.val = rootN (sqX y).val) (ht : true = decide (rt2 (sqX y).val * rt2 (sqX y).val % pp = (sqX y).val)) (hb : 128 ≤ z.toNat) (hx : x = -R) (hr : r = y - 1) (hq : decide (ptBytes x y = xs) = true) : Calls Tryz.prog 52 #[.slice (some ⟨b, o, none⟩) 32 c] w fun e w' => e = .returned (.tuple #[.agg (cP x r), .bool true]) ∧ Below w.heap.size w w' := by
  have KF := ofE hy
  rw [hl] at KF
  obtain ⟨r1, h1⟩ : ∃ v : FF, v = y * y := ⟨_, rfl⟩
  obtain ⟨r6, h6⟩ : ∃ v : FF, v = sqX y := ⟨_, rfl⟩
  rw [← h6] at hR ht
  have KE := evenC (y := y) h1 rfl rfl rfl rfl (h6.trans (by rw [h1]; rfl)) hR ht
  have KN := negE hx
  have KA := atC (x := x) (y := y) hr
  have KB := bytesC (x := x) (a := r) (y := y) (by rw [hr]; generalize y = y; grobner)
  have KQ : Hid (∀ (A A' : Option Addr) (c c' : Nat) (W : World), Sq W W.heap.size A c (bvs (ptBytes x y)) → Sq W W.heap.size A' c' (bvs xs) → Calls Tryz.prog 86 #[.slice A (ptBytes x y).length c, .slice A' 32 c'] W fun e w' => e = .returned (.bool true) ∧ Below W.heap.size W w') := hid fun A A' c c' W h h' => by
    have := Equal_s h h'
    rw [hl, hq] at this
    exact this.mono fun e w' he => ⟨he.1, by rw [he.2]; exact Below.refl _ _⟩
  have HA := hid (and_128 z)
  rw [if_pos hb] at HA
  have HS := hid hS; have HZ := hid hz
  clear hS hl hz hy hR ht h1 h6
  clear hx hr hq hb
  go_enter Tryz.func52, Tryz.ntmps52
  have S0 : Hid (St w w [] []) := hid (St.start w)
  go_upto_region 0 with fail
  refine wpLA_start ?_
  refine wpLA_alloc (by rfl) rfl zeroPc ?_
  intro p1 w1 hp hz hb
  have S1 : Hid (St w w1 [(p1, cP 0 0, PT)] []) := hid (S0.out.alloc hb hp hz)
  clear hp hz hb S0
  (try simp only [Act.put, List.getElem_toArray, List.getElem_cons_succ, List.getElem_cons_zero, List.setIfInBounds_toArray, List.set_cons_zero, List.set_cons_succ])
  refine wpLA_take (.bool false) (yG_val _ (by rfl) (fun w' _ => by (go_simp; try rfl))) ?_
  (try simp only [Act.put, List.getElem_toArray, List.getElem_cons_succ, List.getElem_cons_zero, List.setIfInBounds_toArray, List.set_cons_zero, List.set_cons_succ])
  refine wpLA_end ?_
  intro w2 hb
  have S2 := hid (S1.out.on hb)
  clear hb S1
  go_upto_region 1 with fail
  refine wpLA_start ?_
  refine wpLA_take (.slice (some ⟨b, o, none⟩) 32 c) (yG_val _ (by rfl) (fun w' _ => by (go_simp; try rfl))) ?_
  (try simp only [Act.put, List.getElem_toArray, List.getElem_cons_succ, List.getElem_cons_zero, List.setIfInBounds_toArray, List.set_cons_zero, List.set_cons_succ])
  refine wpLA_take (.int .i64 32) (yG_val _ (by rfl) (fun w' _ => by (go_simp; try rfl))) ?_
  (try simp only [Act.put, List.getElem_toArray, List.getElem_cons_succ, List.getElem_cons_zero, List.setIfInBounds_toArray, List.set_cons_zero, List.set_cons_succ])
  refine wpLA_take (.bool false) (yG_val _ (by rfl) (fun w' _ => by (go_simp; try rfl))) ?_
  (try simp only [Act.put, List.getElem_toArray, List.getElem_cons_succ, List.getElem_cons_zero, List.setIfInBounds_toArray, List.set_cons_zero, List.set_cons_succ])
  refine wpLA_end ?_
  intro w3 hb
  have S3 := hid (S2.out.on hb)
  clear hb S2
  go_upto_region 3 with fail
  refine wpLA_start ?_
  refine wpLA_take (.slice (some ⟨b, o, none⟩) 32 c) (yG_val _ (by rfl) (fun w' _ => by (go_simp; try rfl))) ?_
  (try simp only [Act.put, List.getElem_toArray, List.getElem_cons_succ, List.getElem_cons_zero, List.setIfInBounds_toArray, List.set_cons_zero, List.set_cons_succ])
  refine wpLA_take (.agg (eF y)) (yG_call (by rfl) (fun w' => by go_simp) (fun w' hb => KF.out _ _ w' (HS.out.on6 ((S3.out.on hb).below)))) ?_
  (try simp only [Act.put, List.getElem_toArray, List.getElem_cons_succ, List.getElem_cons_zero, List.setIfInBounds_toArray, List.set_cons_zero, List.set_cons_succ])
  refine wpLA_alloc (by rfl) rfl zeroF ?_
  intro p4 w4 hp hz hb
  have S4 : Hid (St w w4 [(p4, eF 0, ET), (p1, cP 0 0, PT)] []) := hid (S3.out.alloc hb hp hz)
  clear hp hz hb S3
  (try simp only [Act.put, List.getElem_toArray, List.getElem_cons_succ, List.getElem_cons_zero, List.setIfInBounds_toArray, List.set_cons_zero, List.set_cons_succ])
  refine wpLA_store rfl ET (.tmp 4) (.tmp 13) rfl p4 (eF y) rfl rfl ET (eF 0) S4.out.cl.1 (infoF y) ((eF_size 0).trans (eF_size y).symm) (eF_one y) ?_
  intro wx hb
  have S5 : Hid (St w (wx.setRow p4 (eF y)) [(p4, eF y, ET), (p1, cP 0 0, PT)] []) := hid ((S4.out.on hb).put0 0 rfl)
  clear hb S4
  generalize wx.setRow p4 (eF y) = w5 at S5 ⊢
  (try simp only [Act.put, List.getElem_toArray, List.getElem_cons_succ, List.getElem_cons_zero, List.setIfInBounds_toArray, List.set_cons_zero, List.set_cons_succ])
  refine wpLA_end ?_
  intro w6 hb
  have S6 := hid (S5.out.on hb)
  clear hb S5
  go_upto_region 4 with fail
  refine wpLA_start ?_
  refine wpLA_take (.agg (eF y)) (yG_part (by rfl) ET (.tmp 4) rfl p4 0 rfl ET (eF y) (eF y) (0, 0) _ S6.out.cl.1 (eF_all y) Tryz.underlying80 rfl (infoF y)) ?_
  (try simp only [Act.put, List.getElem_toArray, List.getElem_cons_succ, List.getElem_cons_zero, List.setIfInBounds_toArray, List.set_cons_zero, List.set_cons_succ])
  refine wpLA_take (.tuple #[(.agg (eF R)), (.bool true)]) (yG_call (by rfl) (fun w' => by go_simp) (fun w' hb => KE.out w')) ?_
  (try simp only [Act.put, List.getElem_toArray, List.getElem_cons_succ, List.getElem_cons_zero, List.setIfInBounds_toArray, List.set_cons_zero, List.set_cons_succ])
  refine wpLA_take (.tuple #[(.agg (eF R)), (.bool true)]) (yG_val _ (by rfl) (fun w' _ => by (go_simp; try rfl))) ?_
  (try simp only [Act.put, List.getElem_toArray, List.getElem_cons_succ, List.getElem_cons_zero, List.setIfInBounds_toArray, List.set_cons_zero, List.set_cons_succ])
  refine wpLA_take (.agg (eF R)) (yG_val _ (by rfl) (fun w' _ => by (go_simp; try rfl))) ?_
  (try simp only [Act.put, List.getElem_toArray, List.getElem_cons_succ, List.getElem_cons_zero, List.setIfInBounds_toArray, List.set_cons_zero, List.set_cons_succ])
  refine wpLA_take (.bool true) (yG_val _ (by rfl) (fun w' _ => by (go_simp; try rfl))) ?_
  (try simp only [Act.put, List.getElem_toArray, List.getElem_cons_succ, List.getElem_cons_zero, List.setIfInBounds_toArray, List.set_cons_zero, List.set_cons_succ])
  refine wpLA_alloc (by rfl) rfl zeroF ?_
  intro p7 w7 hp hz hb
  have S7 : Hid (St w w7 [(p7, eF 0, ET), (p4, eF y, ET), (p1, cP 0 0, PT)] []) := hid (S6.out.alloc hb hp hz)
  clear hp hz hb S6
  (try simp only [Act.put, List.getElem_toArray, List.getElem_cons_succ, List.getElem_cons_zero, List.setIfInBounds_toArray, List.set_cons_zero, List.set_cons_succ])
  refine wpLA_store rfl ET (.tmp 5) (.tmp 17) rfl p7 (eF R) rfl rfl ET (eF 0) S7.out.cl.1 (infoF R) ((eF_size 0).trans (eF_size R).symm) (eF_one R) ?_
  intro wx hb
  have S8 : Hid (St w (wx.setRow p7 (eF R)) [(p7, eF R, ET), (p4, eF y, ET), (p1, cP 0 0, PT)] []) := hid ((S7.out.on hb).put0 0 rfl)
  clear hb S7
  generalize wx.setRow p7 (eF R) = w8 at S8 ⊢
  (try simp only [Act.put, List.getElem_toArray, List.getElem_cons_succ, List.getElem_cons_zero, List.setIfInBounds_toArray, List.set_cons_zero, List.set_cons_succ])
  refine wpLA_take (.bool true) (yG_val _ (by rfl) (fun w' _ => by (go_simp; try rfl))) ?_
  (try simp only [Act.put, List.getElem_toArray, List.getElem_cons_succ, List.getElem_cons_zero, List.setIfInBounds_toArray, List.set_cons_zero, List.set_cons_succ])
  refine wpLA_end ?_
  intro w9 hb
  have S9 := hid (S8.out.on hb)
  clear hb S8
  go_upto_region 5 with fail
  refine wpLA_start ?_
  refine wpLA_take (.bool true) (yG_val _ (by rfl) (fun w' _ => by (go_simp; try rfl))) ?_
  (try simp only [Act.put, List.getElem_toArray, List.getElem_cons_succ, List.getElem_cons_zero, List.setIfInBounds_toArray, List.set_cons_zero, List.set_cons_succ])
  refine wpLA_take (.bool false) (yG_val _ (by rfl) (fun w' _ => by (go_simp; try rfl))) ?_
  (try simp only [Act.put, List.getElem_toArray, List.getElem_cons_succ, List.getElem_cons_zero, List.setIfInBounds_toArray, List.set_cons_zero, List.set_cons_succ])
  refine wpLA_end ?_
  intro w10 hb
  have S10 := hid (S9.out.on hb)
  clear hb S9
  go_upto_region 7 with fail
  refine wpLA_start ?_
  refine wpLA_take (.slice (some ⟨b, o, none⟩) 32 c) (yG_val _ (by rfl) (fun w' _ => by (go_simp; try rfl))) ?_
  (try simp only [Act.put, List.getElem_toArray, List.getElem_cons_succ, List.getElem_cons_zero, List.setIfInBounds_toArray, List.set_cons_zero, List.set_cons_succ])
  refine wpLA_take (.pointer (some ⟨b, o + 31, none⟩)) (yG_val _ (by rfl) (fun w' _ => by (go_simp; try rfl))) ?_
  (try simp only [Act.put, List.getElem_toArray, List.getElem_cons_succ, List.getElem_cons_zero, List.setIfInBounds_toArray, List.set_cons_zero, List.set_cons_succ])
  refine wpLA_take (.int .u8 (z.toNat)) (yG_val _ (by rfl) (fun w' hb => by (have hc := sq_byte (HS.out.on6 (S10.out.on hb).below) HZ.out; go_simp; try rfl))) ?_
  (try simp only [Act.put, List.getElem_toArray, List.getElem_cons_succ, List.getElem_cons_zero, List.setIfInBounds_toArray, List.set_cons_zero, List.set_cons_succ])
  refine wpLA_take (.int .u8 128) (yG_val _ (by rfl) (fun w' _ => by (have ha := HA.out; go_simp; try rfl))) ?_
  (try simp only [Act.put, List.getElem_toArray, List.getElem_cons_succ, List.getElem_cons_zero, List.setIfInBounds_toArray, List.set_cons_zero, List.set_cons_succ])
  refine wpLA_take (.bool true) (yG_val _ (by rfl) (fun w' _ => by (go_simp; try rfl))) ?_
  (try simp only [Act.put, List.getElem_toArray, List.getElem_cons_succ, List.getElem_cons_zero, List.setIfInBounds_toArray, List.set_cons_zero, List.set_cons_succ])
  refine wpLA_end ?_
  intro w11 hb
  have S11 := hid (S10.out.on hb)
  clear hb S10
  go_upto_region 8 with fail
  refine wpLA_start ?_
  refine wpLA_take (.agg (eF R)) (yG_part (by rfl) ET (.tmp 5) rfl p7 0 rfl ET (eF R) (eF R) (0, 0) _ S11.out.cl.1 (eF_all R) Tryz.underlying80 rfl (infoF R)) ?_
  (try simp only [Act.put, List.getElem_toArray, List.getElem_cons_succ, List.getElem_cons_zero, List.setIfInBounds_toArray, List.set_cons_zero, List.set_cons_succ])
  refine wpLA_take (.agg (eF x)) (yG_call (by rfl) (fun w' => by go_simp) (fun w' hb => KN.out w')) ?_
  (try simp only [Act.put, List.getElem_toArray, List.getElem_cons_succ, List.getElem_cons_zero, List.setIfInBounds_toArray, List.set_cons_zero, List.set_cons_succ])
  refine wpLA_store rfl ET (.tmp 5) (.tmp 28) rfl p7 (eF x) rfl rfl ET (eF R) S11.out.cl.1 (infoF x) ((eF_size R).trans (eF_size x).symm) (eF_one x) ?_
  intro wx hb
  have S12 : Hid (St w (wx.setRow p7 (eF x)) [(p7, eF x, ET), (p4, eF y, ET), (p1, cP 0 0, PT)] []) := hid ((S11.out.on hb).put0 0 rfl)
  clear hb S11
  generalize wx.setRow p7 (eF x) = w12 at S12 ⊢
  (try simp only [Act.put, List.getElem_toArray, List.getElem_cons_succ, List.getElem_cons_zero, List.setIfInBounds_toArray, List.set_cons_zero, List.set_cons_succ])
  refine wpLA_end ?_
  intro w13 hb
  have S13 := hid (S12.out.on hb)
  clear hb S12
  go_upto_region 9 with fail
  refine wpLA_start ?_
  refine wpLA_take (.agg (eF x)) (yG_part (by rfl) ET (.tmp 5) rfl p7 0 rfl ET (eF x) (eF x) (0, 0) _ S13.out.cl.1 (eF_all x) Tryz.underlying80 rfl (infoF x)) ?_
  (try simp only [Act.put, List.getElem_toArray, List.getElem_cons_succ, List.getElem_cons_zero, List.setIfInBounds_toArray, List.set_cons_zero, List.set_cons_succ])
  refine wpLA_take (.agg (eF y)) (yG_part (by rfl) ET (.tmp 4) rfl p4 0 rfl ET (eF y) (eF y) (0, 0) _ S13.out.cl.2.1 (eF_all y) Tryz.underlying80 rfl (infoF y)) ?_
  (try simp only [Act.put, List.getElem_toArray, List.getElem_cons_succ, List.getElem_cons_zero, List.setIfInBounds_toArray, List.set_cons_zero, List.set_cons_succ])
  refine wpLA_take (.agg (cP x r)) (yG_call (by rfl) (fun w' => by go_simp) (fun w' hb => KA.out w')) ?_
  (try simp only [Act.put, List.getElem_toArray, List.getElem_cons_succ, List.getElem_cons_zero, List.setIfInBounds_toArray, List.set_cons_zero, List.set_cons_succ])
  refine wpLA_alloc (by rfl) rfl zeroPc ?_
  intro p14 w14 hp hz hb
  have S14 : Hid (St w w14 [(p14, cP 0 0, PT), (p7, eF x, ET), (p4, eF y, ET), (p1, cP 0 0, PT)] []) := hid (S13.out.alloc hb hp hz)
  clear hp hz hb S13
  (try simp only [Act.put, List.getElem_toArray, List.getElem_cons_succ, List.getElem_cons_zero, List.setIfInBounds_toArray, List.set_cons_zero, List.set_cons_succ])
  refine wpLA_store rfl PT (.tmp 7) (.tmp 31) rfl p14 (cP x r) rfl rfl PT (cP 0 0) S14.out.cl.1 (infoPc x r) ((cP_size 0 0).trans (cP_size x r).symm) (cP_one x r) ?_
  intro wx hb
  have S15 : Hid (St w (wx.setRow p14 (cP x r)) [(p14, cP x r, PT), (p7, eF x, ET), (p4, eF y, ET), (p1, cP 0 0, PT)] []) := hid ((S14.out.on hb).put0 0 rfl)
  clear hb S14
  generalize wx.setRow p14 (cP x r) = w15 at S15 ⊢
  (try simp only [Act.put, List.getElem_toArray, List.getElem_cons_succ, List.getElem_cons_zero, List.setIfInBounds_toArray, List.set_cons_zero, List.set_cons_succ])
  refine wpLA_end ?_
  intro w16 hb
  have S16 := hid (S15.out.on hb)
  clear hb S15
  go_upto_region 10 with fail
  refine wpLA_start ?_
  refine wpLA_take (.agg (cP x r)) (yG_part (by rfl) PT (.tmp 7) rfl p14 0 rfl PT (cP x r) (cP x r) (0, 0) _ S16.out.cl.1 (cP_all x r) Tryz.underlying82 rfl (infoPc x r)) ?_
  (try simp only [Act.put, List.getElem_toArray, List.getElem_cons_succ, List.getElem_cons_zero, List.setIfInBounds_toArray, List.set_cons_zero, List.set_cons_succ])
  refine wpLA_bytes (ptBytes x y) (by rfl) (fun w' => by go_simp) (fun w' hb => KB.out w') ?_
  intro A17 c17 w17 hb hs
  have S17 : Hid (St w w17 [(p14, cP x r, PT), (p7, eF x, ET), (p4, eF y, ET), (p1, cP 0 0, PT)] [(A17, c17, bvs (ptBytes x y))]) := hid ((S16.out.on hb).more hs)
  clear hb hs S16
  (try simp only [Act.put, List.getElem_toArray, List.getElem_cons_succ, List.getElem_cons_zero, List.setIfInBounds_toArray, List.set_cons_zero, List.set_cons_succ])
  refine wpLA_take (.slice (some ⟨b, o, none⟩) 32 c) (yG_val _ (by rfl) (fun w' _ => by (go_simp; try rfl))) ?_
  (try simp only [Act.put, List.getElem_toArray, List.getElem_cons_succ, List.getElem_cons_zero, List.setIfInBounds_toArray, List.set_cons_zero, List.set_cons_succ])
  refine wpLA_take (.bool true) (yG_call (by rfl) (fun w' => by go_simp) (fun w' hb => (KQ.out _ _ _ _ w' (S17.out.on hb).sq.1 (HS.out.on6 ((S17.out.on hb).below))))) ?_
  (try simp only [Act.put, List.getElem_toArray, List.getElem_cons_succ, List.getElem_cons_zero, List.setIfInBounds_toArray, List.set_cons_zero, List.set_cons_succ])
  refine wpLA_take (.bool false) (yG_val _ (by rfl) (fun w' _ => by (go_simp; try rfl))) ?_
  (try simp only [Act.put, List.getElem_toArray, List.getElem_cons_succ, List.getElem_cons_zero, List.setIfInBounds_toArray, List.set_cons_zero, List.set_cons_succ])
  refine wpLA_end ?_
  intro w18 hb
  have S18 := hid (S17.out.on hb)
  clear hb S17
  have SL := hid S18.out.less
  clear S18
  go_upto_region 12 with fail
  refine wpLA_start ?_
  refine wpLA_take (.agg (cP x r)) (yG_part (by rfl) PT (.tmp 7) rfl p14 0 rfl PT (cP x r) (cP x r) (0, 0) _ SL.out.cl.1 (cP_all x r) Tryz.underlying82 rfl (infoPc x r)) ?_
  (try simp only [Act.put, List.getElem_toArray, List.getElem_cons_succ, List.getElem_cons_zero, List.setIfInBounds_toArray, List.set_cons_zero, List.set_cons_succ])
  refine wpLA_store rfl PT (.tmp 2) (.tmp 38) rfl p1 (cP x r) rfl rfl PT (cP 0 0) SL.out.cl.2.2.2.1 (infoPc x r) ((cP_size 0 0).trans (cP_size x r).symm) (cP_one x r) ?_
  intro wx hb
  have S19 : Hid (St w (wx.setRow p1 (cP x r)) [(p14, cP x r, PT), (p7, eF x, ET), (p4, eF y, ET), (p1, cP x r, PT)] []) := hid ((SL.out.on hb).put0 3 rfl)
  clear hb SL
  generalize wx.setRow p1 (cP x r) = w19 at S19 ⊢
  (try simp only [Act.put, List.getElem_toArray, List.getElem_cons_succ, List.getElem_cons_zero, List.setIfInBounds_toArray, List.set_cons_zero, List.set_cons_succ])
  refine wpLA_take (.bool true) (yG_val _ (by rfl) (fun w' _ => by (go_simp; try rfl))) ?_
  (try simp only [Act.put, List.getElem_toArray, List.getElem_cons_succ, List.getElem_cons_zero, List.setIfInBounds_toArray, List.set_cons_zero, List.set_cons_succ])
  refine wpLA_end ?_
  intro w20 hb
  have S20 := hid (S19.out.on hb)
  clear hb S19
  go_wp2_with fail
  exact bodyPost_ret (v := .tuple #[.agg (cP x r), .bool true]) (results_cell_tmp rfl _ _ ⟨p1, 0, none⟩ _ _ rfl rfl (run_loadVar_row _ p1 PT PT _ (0, 0) _ S20.out.cl.2.2.2.1 Tryz.underlying82 rfl (infoPc x r))) rfl ⟨rfl, S20.out.below⟩
set_option maxHeartbeats 1000000 in
theorem of_hn {y x r R : FF} {z : UInt8} (b o c : Nat) (w : World) {xs : List UInt8} (hS : Sq w w.heap.size (some ⟨b, o, none⟩) c (bvs xs)) (hl : xs.length = 32) (hz : xs[31]? = some z) (hy : y = ofF xs) (hR : R.val = rootN (sqX y).val) (ht : true = decide (rt2 (sqX y).val * rt2 (sqX y).val % pp = (sqX y).val)) (hb : 128 ≤ z.toNat) (hx : x = -R) (hr : r = y - 1) (hq : decide (ptBytes x y = xs) = false) : Calls Tryz.prog 52 #[.slice (some ⟨b, o, none⟩) 32 c] w fun e w' => e = .returned (.tuple #[.agg (cP 0 0), .bool false]) ∧ Below w.heap.size w w' := by
  have KF := ofE hy
  rw [hl] at KF
  obtain ⟨r1, h1⟩ : ∃ v : FF, v = y * y := ⟨_, rfl⟩
  obtain ⟨r6, h6⟩ : ∃ v : FF, v = sqX y := ⟨_, rfl⟩
  rw [← h6] at hR ht
  have KE := evenC (y := y) h1 rfl rfl rfl rfl (h6.trans (by rw [h1]; rfl)) hR ht
  have KN := negE hx
  have KA := atC (x := x) (y := y) hr
  have KB := bytesC (x := x) (a := r) (y := y) (by rw [hr]; generalize y = y; grobner)
  have KQ : Hid (∀ (A A' : Option Addr) (c c' : Nat) (W : World), Sq W W.heap.size A c (bvs (ptBytes x y)) → Sq W W.heap.size A' c' (bvs xs) → Calls Tryz.prog 86 #[.slice A (ptBytes x y).length c, .slice A' 32 c'] W fun e w' => e = .returned (.bool false) ∧ Below W.heap.size W w') := hid fun A A' c c' W h h' => by
    have := Equal_s h h'
    rw [hl, hq] at this
    exact this.mono fun e w' he => ⟨he.1, by rw [he.2]; exact Below.refl _ _⟩
  have HA := hid (and_128 z)
  rw [if_pos hb] at HA
  have HS := hid hS; have HZ := hid hz
  clear hS hl hz hy hR ht h1 h6
  clear hx hr hq hb
  go_enter Tryz.func52, Tryz.ntmps52
  have S0 : Hid (St w w [] []) := hid (St.start w)
  go_upto_region 0 with fail
  refine wpLA_start ?_
  refine wpLA_alloc (by rfl) rfl zeroPc ?_
  intro p1 w1 hp hz hb
  have S1 : Hid (St w w1 [(p1, cP 0 0, PT)] []) := hid (S0.out.alloc hb hp hz)
  clear hp hz hb S0
  (try simp only [Act.put, List.getElem_toArray, List.getElem_cons_succ, List.getElem_cons_zero, List.setIfInBounds_toArray, List.set_cons_zero, List.set_cons_succ])
  refine wpLA_take (.bool false) (yG_val _ (by rfl) (fun w' _ => by (go_simp; try rfl))) ?_
  (try simp only [Act.put, List.getElem_toArray, List.getElem_cons_succ, List.getElem_cons_zero, List.setIfInBounds_toArray, List.set_cons_zero, List.set_cons_succ])
  refine wpLA_end ?_
  intro w2 hb
  have S2 := hid (S1.out.on hb)
  clear hb S1
  go_upto_region 1 with fail
  refine wpLA_start ?_
  refine wpLA_take (.slice (some ⟨b, o, none⟩) 32 c) (yG_val _ (by rfl) (fun w' _ => by (go_simp; try rfl))) ?_
  (try simp only [Act.put, List.getElem_toArray, List.getElem_cons_succ, List.getElem_cons_zero, List.setIfInBounds_toArray, List.set_cons_zero, List.set_cons_succ])
  refine wpLA_take (.int .i64 32) (yG_val _ (by rfl) (fun w' _ => by (go_simp; try rfl))) ?_
  (try simp only [Act.put, List.getElem_toArray, List.getElem_cons_succ, List.getElem_cons_zero, List.setIfInBounds_toArray, List.set_cons_zero, List.set_cons_succ])
  refine wpLA_take (.bool false) (yG_val _ (by rfl) (fun w' _ => by (go_simp; try rfl))) ?_
  (try simp only [Act.put, List.getElem_toArray, List.getElem_cons_succ, List.getElem_cons_zero, List.setIfInBounds_toArray, List.set_cons_zero, List.set_cons_succ])
  refine wpLA_end ?_
  intro w3 hb
  have S3 := hid (S2.out.on hb)
  clear hb S2
  go_upto_region 3 with fail
  refine wpLA_start ?_
  refine wpLA_take (.slice (some ⟨b, o, none⟩) 32 c) (yG_val _ (by rfl) (fun w' _ => by (go_simp; try rfl))) ?_
  (try simp only [Act.put, List.getElem_toArray, List.getElem_cons_succ, List.getElem_cons_zero, List.setIfInBounds_toArray, List.set_cons_zero, List.set_cons_succ])
  refine wpLA_take (.agg (eF y)) (yG_call (by rfl) (fun w' => by go_simp) (fun w' hb => KF.out _ _ w' (HS.out.on6 ((S3.out.on hb).below)))) ?_
  (try simp only [Act.put, List.getElem_toArray, List.getElem_cons_succ, List.getElem_cons_zero, List.setIfInBounds_toArray, List.set_cons_zero, List.set_cons_succ])
  refine wpLA_alloc (by rfl) rfl zeroF ?_
  intro p4 w4 hp hz hb
  have S4 : Hid (St w w4 [(p4, eF 0, ET), (p1, cP 0 0, PT)] []) := hid (S3.out.alloc hb hp hz)
  clear hp hz hb S3
  (try simp only [Act.put, List.getElem_toArray, List.getElem_cons_succ, List.getElem_cons_zero, List.setIfInBounds_toArray, List.set_cons_zero, List.set_cons_succ])
  refine wpLA_store rfl ET (.tmp 4) (.tmp 13) rfl p4 (eF y) rfl rfl ET (eF 0) S4.out.cl.1 (infoF y) ((eF_size 0).trans (eF_size y).symm) (eF_one y) ?_
  intro wx hb
  have S5 : Hid (St w (wx.setRow p4 (eF y)) [(p4, eF y, ET), (p1, cP 0 0, PT)] []) := hid ((S4.out.on hb).put0 0 rfl)
  clear hb S4
  generalize wx.setRow p4 (eF y) = w5 at S5 ⊢
  (try simp only [Act.put, List.getElem_toArray, List.getElem_cons_succ, List.getElem_cons_zero, List.setIfInBounds_toArray, List.set_cons_zero, List.set_cons_succ])
  refine wpLA_end ?_
  intro w6 hb
  have S6 := hid (S5.out.on hb)
  clear hb S5
  go_upto_region 4 with fail
  refine wpLA_start ?_
  refine wpLA_take (.agg (eF y)) (yG_part (by rfl) ET (.tmp 4) rfl p4 0 rfl ET (eF y) (eF y) (0, 0) _ S6.out.cl.1 (eF_all y) Tryz.underlying80 rfl (infoF y)) ?_
  (try simp only [Act.put, List.getElem_toArray, List.getElem_cons_succ, List.getElem_cons_zero, List.setIfInBounds_toArray, List.set_cons_zero, List.set_cons_succ])
  refine wpLA_take (.tuple #[(.agg (eF R)), (.bool true)]) (yG_call (by rfl) (fun w' => by go_simp) (fun w' hb => KE.out w')) ?_
  (try simp only [Act.put, List.getElem_toArray, List.getElem_cons_succ, List.getElem_cons_zero, List.setIfInBounds_toArray, List.set_cons_zero, List.set_cons_succ])
  refine wpLA_take (.tuple #[(.agg (eF R)), (.bool true)]) (yG_val _ (by rfl) (fun w' _ => by (go_simp; try rfl))) ?_
  (try simp only [Act.put, List.getElem_toArray, List.getElem_cons_succ, List.getElem_cons_zero, List.setIfInBounds_toArray, List.set_cons_zero, List.set_cons_succ])
  refine wpLA_take (.agg (eF R)) (yG_val _ (by rfl) (fun w' _ => by (go_simp; try rfl))) ?_
  (try simp only [Act.put, List.getElem_toArray, List.getElem_cons_succ, List.getElem_cons_zero, List.setIfInBounds_toArray, List.set_cons_zero, List.set_cons_succ])
  refine wpLA_take (.bool true) (yG_val _ (by rfl) (fun w' _ => by (go_simp; try rfl))) ?_
  (try simp only [Act.put, List.getElem_toArray, List.getElem_cons_succ, List.getElem_cons_zero, List.setIfInBounds_toArray, List.set_cons_zero, List.set_cons_succ])
  refine wpLA_alloc (by rfl) rfl zeroF ?_
  intro p7 w7 hp hz hb
  have S7 : Hid (St w w7 [(p7, eF 0, ET), (p4, eF y, ET), (p1, cP 0 0, PT)] []) := hid (S6.out.alloc hb hp hz)
  clear hp hz hb S6
  (try simp only [Act.put, List.getElem_toArray, List.getElem_cons_succ, List.getElem_cons_zero, List.setIfInBounds_toArray, List.set_cons_zero, List.set_cons_succ])
  refine wpLA_store rfl ET (.tmp 5) (.tmp 17) rfl p7 (eF R) rfl rfl ET (eF 0) S7.out.cl.1 (infoF R) ((eF_size 0).trans (eF_size R).symm) (eF_one R) ?_
  intro wx hb
  have S8 : Hid (St w (wx.setRow p7 (eF R)) [(p7, eF R, ET), (p4, eF y, ET), (p1, cP 0 0, PT)] []) := hid ((S7.out.on hb).put0 0 rfl)
  clear hb S7
  generalize wx.setRow p7 (eF R) = w8 at S8 ⊢
  (try simp only [Act.put, List.getElem_toArray, List.getElem_cons_succ, List.getElem_cons_zero, List.setIfInBounds_toArray, List.set_cons_zero, List.set_cons_succ])
  refine wpLA_take (.bool true) (yG_val _ (by rfl) (fun w' _ => by (go_simp; try rfl))) ?_
  (try simp only [Act.put, List.getElem_toArray, List.getElem_cons_succ, List.getElem_cons_zero, List.setIfInBounds_toArray, List.set_cons_zero, List.set_cons_succ])
  refine wpLA_end ?_
  intro w9 hb
  have S9 := hid (S8.out.on hb)
  clear hb S8
  go_upto_region 5 with fail
  refine wpLA_start ?_
  refine wpLA_take (.bool true) (yG_val _ (by rfl) (fun w' _ => by (go_simp; try rfl))) ?_
  (try simp only [Act.put, List.getElem_toArray, List.getElem_cons_succ, List.getElem_cons_zero, List.setIfInBounds_toArray, List.set_cons_zero, List.set_cons_succ])
  refine wpLA_take (.bool false) (yG_val _ (by rfl) (fun w' _ => by (go_simp; try rfl))) ?_
  (try simp only [Act.put, List.getElem_toArray, List.getElem_cons_succ, List.getElem_cons_zero, List.setIfInBounds_toArray, List.set_cons_zero, List.set_cons_succ])
  refine wpLA_end ?_
  intro w10 hb
  have S10 := hid (S9.out.on hb)
  clear hb S9
  go_upto_region 7 with fail
  refine wpLA_start ?_
  refine wpLA_take (.slice (some ⟨b, o, none⟩) 32 c) (yG_val _ (by rfl) (fun w' _ => by (go_simp; try rfl))) ?_
  (try simp only [Act.put, List.getElem_toArray, List.getElem_cons_succ, List.getElem_cons_zero, List.setIfInBounds_toArray, List.set_cons_zero, List.set_cons_succ])
  refine wpLA_take (.pointer (some ⟨b, o + 31, none⟩)) (yG_val _ (by rfl) (fun w' _ => by (go_simp; try rfl))) ?_
  (try simp only [Act.put, List.getElem_toArray, List.getElem_cons_succ, List.getElem_cons_zero, List.setIfInBounds_toArray, List.set_cons_zero, List.set_cons_succ])
  refine wpLA_take (.int .u8 (z.toNat)) (yG_val _ (by rfl) (fun w' hb => by (have hc := sq_byte (HS.out.on6 (S10.out.on hb).below) HZ.out; go_simp; try rfl))) ?_
  (try simp only [Act.put, List.getElem_toArray, List.getElem_cons_succ, List.getElem_cons_zero, List.setIfInBounds_toArray, List.set_cons_zero, List.set_cons_succ])
  refine wpLA_take (.int .u8 128) (yG_val _ (by rfl) (fun w' _ => by (have ha := HA.out; go_simp; try rfl))) ?_
  (try simp only [Act.put, List.getElem_toArray, List.getElem_cons_succ, List.getElem_cons_zero, List.setIfInBounds_toArray, List.set_cons_zero, List.set_cons_succ])
  refine wpLA_take (.bool true) (yG_val _ (by rfl) (fun w' _ => by (go_simp; try rfl))) ?_
  (try simp only [Act.put, List.getElem_toArray, List.getElem_cons_succ, List.getElem_cons_zero, List.setIfInBounds_toArray, List.set_cons_zero, List.set_cons_succ])
  refine wpLA_end ?_
  intro w11 hb
  have S11 := hid (S10.out.on hb)
  clear hb S10
  go_upto_region 8 with fail
  refine wpLA_start ?_
  refine wpLA_take (.agg (eF R)) (yG_part (by rfl) ET (.tmp 5) rfl p7 0 rfl ET (eF R) (eF R) (0, 0) _ S11.out.cl.1 (eF_all R) Tryz.underlying80 rfl (infoF R)) ?_
  (try simp only [Act.put, List.getElem_toArray, List.getElem_cons_succ, List.getElem_cons_zero, List.setIfInBounds_toArray, List.set_cons_zero, List.set_cons_succ])
  refine wpLA_take (.agg (eF x)) (yG_call (by rfl) (fun w' => by go_simp) (fun w' hb => KN.out w')) ?_
  (try simp only [Act.put, List.getElem_toArray, List.getElem_cons_succ, List.getElem_cons_zero, List.setIfInBounds_toArray, List.set_cons_zero, List.set_cons_succ])
  refine wpLA_store rfl ET (.tmp 5) (.tmp 28) rfl p7 (eF x) rfl rfl ET (eF R) S11.out.cl.1 (infoF x) ((eF_size R).trans (eF_size x).symm) (eF_one x) ?_
  intro wx hb
  have S12 : Hid (St w (wx.setRow p7 (eF x)) [(p7, eF x, ET), (p4, eF y, ET), (p1, cP 0 0, PT)] []) := hid ((S11.out.on hb).put0 0 rfl)
  clear hb S11
  generalize wx.setRow p7 (eF x) = w12 at S12 ⊢
  (try simp only [Act.put, List.getElem_toArray, List.getElem_cons_succ, List.getElem_cons_zero, List.setIfInBounds_toArray, List.set_cons_zero, List.set_cons_succ])
  refine wpLA_end ?_
  intro w13 hb
  have S13 := hid (S12.out.on hb)
  clear hb S12
  go_upto_region 9 with fail
  refine wpLA_start ?_
  refine wpLA_take (.agg (eF x)) (yG_part (by rfl) ET (.tmp 5) rfl p7 0 rfl ET (eF x) (eF x) (0, 0) _ S13.out.cl.1 (eF_all x) Tryz.underlying80 rfl (infoF x)) ?_
  (try simp only [Act.put, List.getElem_toArray, List.getElem_cons_succ, List.getElem_cons_zero, List.setIfInBounds_toArray, List.set_cons_zero, List.set_cons_succ])
  refine wpLA_take (.agg (eF y)) (yG_part (by rfl) ET (.tmp 4) rfl p4 0 rfl ET (eF y) (eF y) (0, 0) _ S13.out.cl.2.1 (eF_all y) Tryz.underlying80 rfl (infoF y)) ?_
  (try simp only [Act.put, List.getElem_toArray, List.getElem_cons_succ, List.getElem_cons_zero, List.setIfInBounds_toArray, List.set_cons_zero, List.set_cons_succ])
  refine wpLA_take (.agg (cP x r)) (yG_call (by rfl) (fun w' => by go_simp) (fun w' hb => KA.out w')) ?_
  (try simp only [Act.put, List.getElem_toArray, List.getElem_cons_succ, List.getElem_cons_zero, List.setIfInBounds_toArray, List.set_cons_zero, List.set_cons_succ])
  refine wpLA_alloc (by rfl) rfl zeroPc ?_
  intro p14 w14 hp hz hb
  have S14 : Hid (St w w14 [(p14, cP 0 0, PT), (p7, eF x, ET), (p4, eF y, ET), (p1, cP 0 0, PT)] []) := hid (S13.out.alloc hb hp hz)
  clear hp hz hb S13
  (try simp only [Act.put, List.getElem_toArray, List.getElem_cons_succ, List.getElem_cons_zero, List.setIfInBounds_toArray, List.set_cons_zero, List.set_cons_succ])
  refine wpLA_store rfl PT (.tmp 7) (.tmp 31) rfl p14 (cP x r) rfl rfl PT (cP 0 0) S14.out.cl.1 (infoPc x r) ((cP_size 0 0).trans (cP_size x r).symm) (cP_one x r) ?_
  intro wx hb
  have S15 : Hid (St w (wx.setRow p14 (cP x r)) [(p14, cP x r, PT), (p7, eF x, ET), (p4, eF y, ET), (p1, cP 0 0, PT)] []) := hid ((S14.out.on hb).put0 0 rfl)
  clear hb S14
  generalize wx.setRow p14 (cP x r) = w15 at S15 ⊢
  (try simp only [Act.put, List.getElem_toArray, List.getElem_cons_succ, List.getElem_cons_zero, List.setIfInBounds_toArray, List.set_cons_zero, List.set_cons_succ])
  refine wpLA_end ?_
  intro w16 hb
  have S16 := hid (S15.out.on hb)
  clear hb S15
  go_upto_region 10 with fail
  refine wpLA_start ?_
  refine wpLA_take (.agg (cP x r)) (yG_part (by rfl) PT (.tmp 7) rfl p14 0 rfl PT (cP x r) (cP x r) (0, 0) _ S16.out.cl.1 (cP_all x r) Tryz.underlying82 rfl (infoPc x r)) ?_
  (try simp only [Act.put, List.getElem_toArray, List.getElem_cons_succ, List.getElem_cons_zero, List.setIfInBounds_toArray, List.set_cons_zero, List.set_cons_succ])
  refine wpLA_bytes (ptBytes x y) (by rfl) (fun w' => by go_simp) (fun w' hb => KB.out w') ?_
  intro A17 c17 w17 hb hs
  have S17 : Hid (St w w17 [(p14, cP x r, PT), (p7, eF x, ET), (p4, eF y, ET), (p1, cP 0 0, PT)] [(A17, c17, bvs (ptBytes x y))]) := hid ((S16.out.on hb).more hs)
  clear hb hs S16
  (try simp only [Act.put, List.getElem_toArray, List.getElem_cons_succ, List.getElem_cons_zero, List.setIfInBounds_toArray, List.set_cons_zero, List.set_cons_succ])
  refine wpLA_take (.slice (some ⟨b, o, none⟩) 32 c) (yG_val _ (by rfl) (fun w' _ => by (go_simp; try rfl))) ?_
  (try simp only [Act.put, List.getElem_toArray, List.getElem_cons_succ, List.getElem_cons_zero, List.setIfInBounds_toArray, List.set_cons_zero, List.set_cons_succ])
  refine wpLA_take (.bool false) (yG_call (by rfl) (fun w' => by go_simp) (fun w' hb => (KQ.out _ _ _ _ w' (S17.out.on hb).sq.1 (HS.out.on6 ((S17.out.on hb).below))))) ?_
  (try simp only [Act.put, List.getElem_toArray, List.getElem_cons_succ, List.getElem_cons_zero, List.setIfInBounds_toArray, List.set_cons_zero, List.set_cons_succ])
  refine wpLA_take (.bool true) (yG_val _ (by rfl) (fun w' _ => by (go_simp; try rfl))) ?_
  (try simp only [Act.put, List.getElem_toArray, List.getElem_cons_succ, List.getElem_cons_zero, List.setIfInBounds_toArray, List.set_cons_zero, List.set_cons_succ])
  refine wpLA_end ?_
  intro w18 hb
  have S18 := hid (S17.out.on hb)
  clear hb S17
  have SL := hid S18.out.less
  clear S18
  go_upto_region 11 with fail
  refine wpLA_start ?_
  refine wpLA_take (.agg (cP 0 0)) (yG_build (by rfl) PT _ rfl [] rfl _ builtP0) ?_
  (try simp only [Act.put, List.getElem_toArray, List.getElem_cons_succ, List.getElem_cons_zero, List.setIfInBounds_toArray, List.set_cons_zero, List.set_cons_succ])
  refine wpLA_store rfl PT (.tmp 2) (.tmp 37) rfl p1 (cP 0 0) rfl rfl PT (cP 0 0) SL.out.cl.2.2.2.1 (infoPc 0 0) ((cP_size 0 0).trans (cP_size 0 0).symm) (cP_one 0 0) ?_
  intro wx hb
  have S19 : Hid (St w (wx.setRow p1 (cP 0 0)) [(p14, cP x r, PT), (p7, eF x, ET), (p4, eF y, ET), (p1, cP 0 0, PT)] []) := hid ((SL.out.on hb).put0 3 rfl)
  clear hb SL
  generalize wx.setRow p1 (cP 0 0) = w19 at S19 ⊢
  (try simp only [Act.put, List.getElem_toArray, List.getElem_cons_succ, List.getElem_cons_zero, List.setIfInBounds_toArray, List.set_cons_zero, List.set_cons_succ])
  refine wpLA_take (.bool false) (yG_val _ (by rfl) (fun w' _ => by (go_simp; try rfl))) ?_
  (try simp only [Act.put, List.getElem_toArray, List.getElem_cons_succ, List.getElem_cons_zero, List.setIfInBounds_toArray, List.set_cons_zero, List.set_cons_succ])
  refine wpLA_end ?_
  intro w20 hb
  have S20 := hid (S19.out.on hb)
  clear hb S19
  go_wp2_with fail
  exact bodyPost_ret (v := .tuple #[.agg (cP 0 0), .bool false]) (results_cell_tmp rfl _ _ ⟨p1, 0, none⟩ _ _ rfl rfl (run_loadVar_row _ p1 PT PT _ (0, 0) _ S20.out.cl.2.2.2.1 Tryz.underlying82 rfl (infoPc 0 0))) rfl ⟨rfl, S20.out.below⟩
set_option maxHeartbeats 1000000 in
theorem of_le {y x r R : FF} {z : UInt8} (b o c : Nat) (w : World) {xs : List UInt8} (hS : Sq w w.heap.size (some ⟨b, o, none⟩) c (bvs xs)) (hl : xs.length = 32) (hz : xs[31]? = some z) (hy : y = ofF xs) (hR : R.val = rootN (sqX y).val) (ht : true = decide (rt2 (sqX y).val * rt2 (sqX y).val % pp = (sqX y).val)) (hb : ¬ 128 ≤ z.toNat) (hx : x = R) (hr : r = y - 1) (hq : decide (ptBytes x y = xs) = true) : Calls Tryz.prog 52 #[.slice (some ⟨b, o, none⟩) 32 c] w fun e w' => e = .returned (.tuple #[.agg (cP x r), .bool true]) ∧ Below w.heap.size w w' := by
  have KF := ofE hy
  rw [hl] at KF
  obtain ⟨r1, h1⟩ : ∃ v : FF, v = y * y := ⟨_, rfl⟩
  obtain ⟨r6, h6⟩ : ∃ v : FF, v = sqX y := ⟨_, rfl⟩
  rw [← h6] at hR ht
  rw [← hx] at hR
  have KE := evenC (y := y) h1 rfl rfl rfl rfl (h6.trans (by rw [h1]; rfl)) hR ht
  have KA := atC (x := x) (y := y) hr
  have KB := bytesC (x := x) (a := r) (y := y) (by rw [hr]; generalize y = y; grobner)
  have KQ : Hid (∀ (A A' : Option Addr) (c c' : Nat) (W : World), Sq W W.heap.size A c (bvs (ptBytes x y)) → Sq W W.heap.size A' c' (bvs xs) → Calls Tryz.prog 86 #[.slice A (ptBytes x y).length c, .slice A' 32 c'] W fun e w' => e = .returned (.bool true) ∧ Below W.heap.size W w') := hid fun A A' c c' W h h' => by
    have := Equal_s h h'
    rw [hl, hq] at this
    exact this.mono fun e w' he => ⟨he.1, by rw [he.2]; exact Below.refl _ _⟩
  have HA := hid (and_128 z)
  rw [if_neg hb] at HA
  have HS := hid hS; have HZ := hid hz
  clear hS hl hz hy hR ht h1 h6
  clear hx hr hq hb
  go_enter Tryz.func52, Tryz.ntmps52
  have S0 : Hid (St w w [] []) := hid (St.start w)
  go_upto_region 0 with fail
  refine wpLA_start ?_
  refine wpLA_alloc (by rfl) rfl zeroPc ?_
  intro p1 w1 hp hz hb
  have S1 : Hid (St w w1 [(p1, cP 0 0, PT)] []) := hid (S0.out.alloc hb hp hz)
  clear hp hz hb S0
  (try simp only [Act.put, List.getElem_toArray, List.getElem_cons_succ, List.getElem_cons_zero, List.setIfInBounds_toArray, List.set_cons_zero, List.set_cons_succ])
  refine wpLA_take (.bool false) (yG_val _ (by rfl) (fun w' _ => by (go_simp; try rfl))) ?_
  (try simp only [Act.put, List.getElem_toArray, List.getElem_cons_succ, List.getElem_cons_zero, List.setIfInBounds_toArray, List.set_cons_zero, List.set_cons_succ])
  refine wpLA_end ?_
  intro w2 hb
  have S2 := hid (S1.out.on hb)
  clear hb S1
  go_upto_region 1 with fail
  refine wpLA_start ?_
  refine wpLA_take (.slice (some ⟨b, o, none⟩) 32 c) (yG_val _ (by rfl) (fun w' _ => by (go_simp; try rfl))) ?_
  (try simp only [Act.put, List.getElem_toArray, List.getElem_cons_succ, List.getElem_cons_zero, List.setIfInBounds_toArray, List.set_cons_zero, List.set_cons_succ])
  refine wpLA_take (.int .i64 32) (yG_val _ (by rfl) (fun w' _ => by (go_simp; try rfl))) ?_
  (try simp only [Act.put, List.getElem_toArray, List.getElem_cons_succ, List.getElem_cons_zero, List.setIfInBounds_toArray, List.set_cons_zero, List.set_cons_succ])
  refine wpLA_take (.bool false) (yG_val _ (by rfl) (fun w' _ => by (go_simp; try rfl))) ?_
  (try simp only [Act.put, List.getElem_toArray, List.getElem_cons_succ, List.getElem_cons_zero, List.setIfInBounds_toArray, List.set_cons_zero, List.set_cons_succ])
  refine wpLA_end ?_
  intro w3 hb
  have S3 := hid (S2.out.on hb)
  clear hb S2
  go_upto_region 3 with fail
  refine wpLA_start ?_
  refine wpLA_take (.slice (some ⟨b, o, none⟩) 32 c) (yG_val _ (by rfl) (fun w' _ => by (go_simp; try rfl))) ?_
  (try simp only [Act.put, List.getElem_toArray, List.getElem_cons_succ, List.getElem_cons_zero, List.setIfInBounds_toArray, List.set_cons_zero, List.set_cons_succ])
  refine wpLA_take (.agg (eF y)) (yG_call (by rfl) (fun w' => by go_simp) (fun w' hb => KF.out _ _ w' (HS.out.on6 ((S3.out.on hb).below)))) ?_
  (try simp only [Act.put, List.getElem_toArray, List.getElem_cons_succ, List.getElem_cons_zero, List.setIfInBounds_toArray, List.set_cons_zero, List.set_cons_succ])
  refine wpLA_alloc (by rfl) rfl zeroF ?_
  intro p4 w4 hp hz hb
  have S4 : Hid (St w w4 [(p4, eF 0, ET), (p1, cP 0 0, PT)] []) := hid (S3.out.alloc hb hp hz)
  clear hp hz hb S3
  (try simp only [Act.put, List.getElem_toArray, List.getElem_cons_succ, List.getElem_cons_zero, List.setIfInBounds_toArray, List.set_cons_zero, List.set_cons_succ])
  refine wpLA_store rfl ET (.tmp 4) (.tmp 13) rfl p4 (eF y) rfl rfl ET (eF 0) S4.out.cl.1 (infoF y) ((eF_size 0).trans (eF_size y).symm) (eF_one y) ?_
  intro wx hb
  have S5 : Hid (St w (wx.setRow p4 (eF y)) [(p4, eF y, ET), (p1, cP 0 0, PT)] []) := hid ((S4.out.on hb).put0 0 rfl)
  clear hb S4
  generalize wx.setRow p4 (eF y) = w5 at S5 ⊢
  (try simp only [Act.put, List.getElem_toArray, List.getElem_cons_succ, List.getElem_cons_zero, List.setIfInBounds_toArray, List.set_cons_zero, List.set_cons_succ])
  refine wpLA_end ?_
  intro w6 hb
  have S6 := hid (S5.out.on hb)
  clear hb S5
  go_upto_region 4 with fail
  refine wpLA_start ?_
  refine wpLA_take (.agg (eF y)) (yG_part (by rfl) ET (.tmp 4) rfl p4 0 rfl ET (eF y) (eF y) (0, 0) _ S6.out.cl.1 (eF_all y) Tryz.underlying80 rfl (infoF y)) ?_
  (try simp only [Act.put, List.getElem_toArray, List.getElem_cons_succ, List.getElem_cons_zero, List.setIfInBounds_toArray, List.set_cons_zero, List.set_cons_succ])
  refine wpLA_take (.tuple #[(.agg (eF x)), (.bool true)]) (yG_call (by rfl) (fun w' => by go_simp) (fun w' hb => KE.out w')) ?_
  (try simp only [Act.put, List.getElem_toArray, List.getElem_cons_succ, List.getElem_cons_zero, List.setIfInBounds_toArray, List.set_cons_zero, List.set_cons_succ])
  refine wpLA_take (.tuple #[(.agg (eF x)), (.bool true)]) (yG_val _ (by rfl) (fun w' _ => by (go_simp; try rfl))) ?_
  (try simp only [Act.put, List.getElem_toArray, List.getElem_cons_succ, List.getElem_cons_zero, List.setIfInBounds_toArray, List.set_cons_zero, List.set_cons_succ])
  refine wpLA_take (.agg (eF x)) (yG_val _ (by rfl) (fun w' _ => by (go_simp; try rfl))) ?_
  (try simp only [Act.put, List.getElem_toArray, List.getElem_cons_succ, List.getElem_cons_zero, List.setIfInBounds_toArray, List.set_cons_zero, List.set_cons_succ])
  refine wpLA_take (.bool true) (yG_val _ (by rfl) (fun w' _ => by (go_simp; try rfl))) ?_
  (try simp only [Act.put, List.getElem_toArray, List.getElem_cons_succ, List.getElem_cons_zero, List.setIfInBounds_toArray, List.set_cons_zero, List.set_cons_succ])
  refine wpLA_alloc (by rfl) rfl zeroF ?_
  intro p7 w7 hp hz hb
  have S7 : Hid (St w w7 [(p7, eF 0, ET), (p4, eF y, ET), (p1, cP 0 0, PT)] []) := hid (S6.out.alloc hb hp hz)
  clear hp hz hb S6
  (try simp only [Act.put, List.getElem_toArray, List.getElem_cons_succ, List.getElem_cons_zero, List.setIfInBounds_toArray, List.set_cons_zero, List.set_cons_succ])
  refine wpLA_store rfl ET (.tmp 5) (.tmp 17) rfl p7 (eF x) rfl rfl ET (eF 0) S7.out.cl.1 (infoF x) ((eF_size 0).trans (eF_size x).symm) (eF_one x) ?_
  intro wx hb
  have S8 : Hid (St w (wx.setRow p7 (eF x)) [(p7, eF x, ET), (p4, eF y, ET), (p1, cP 0 0, PT)] []) := hid ((S7.out.on hb).put0 0 rfl)
  clear hb S7
  generalize wx.setRow p7 (eF x) = w8 at S8 ⊢
  (try simp only [Act.put, List.getElem_toArray, List.getElem_cons_succ, List.getElem_cons_zero, List.setIfInBounds_toArray, List.set_cons_zero, List.set_cons_succ])
  refine wpLA_take (.bool true) (yG_val _ (by rfl) (fun w' _ => by (go_simp; try rfl))) ?_
  (try simp only [Act.put, List.getElem_toArray, List.getElem_cons_succ, List.getElem_cons_zero, List.setIfInBounds_toArray, List.set_cons_zero, List.set_cons_succ])
  refine wpLA_end ?_
  intro w9 hb
  have S9 := hid (S8.out.on hb)
  clear hb S8
  go_upto_region 5 with fail
  refine wpLA_start ?_
  refine wpLA_take (.bool true) (yG_val _ (by rfl) (fun w' _ => by (go_simp; try rfl))) ?_
  (try simp only [Act.put, List.getElem_toArray, List.getElem_cons_succ, List.getElem_cons_zero, List.setIfInBounds_toArray, List.set_cons_zero, List.set_cons_succ])
  refine wpLA_take (.bool false) (yG_val _ (by rfl) (fun w' _ => by (go_simp; try rfl))) ?_
  (try simp only [Act.put, List.getElem_toArray, List.getElem_cons_succ, List.getElem_cons_zero, List.setIfInBounds_toArray, List.set_cons_zero, List.set_cons_succ])
  refine wpLA_end ?_
  intro w10 hb
  have S10 := hid (S9.out.on hb)
  clear hb S9
  go_upto_region 7 with fail
  refine wpLA_start ?_
  refine wpLA_take (.slice (some ⟨b, o, none⟩) 32 c) (yG_val _ (by rfl) (fun w' _ => by (go_simp; try rfl))) ?_
  (try simp only [Act.put, List.getElem_toArray, List.getElem_cons_succ, List.getElem_cons_zero, List.setIfInBounds_toArray, List.set_cons_zero, List.set_cons_succ])
  refine wpLA_take (.pointer (some ⟨b, o + 31, none⟩)) (yG_val _ (by rfl) (fun w' _ => by (go_simp; try rfl))) ?_
  (try simp only [Act.put, List.getElem_toArray, List.getElem_cons_succ, List.getElem_cons_zero, List.setIfInBounds_toArray, List.set_cons_zero, List.set_cons_succ])
  refine wpLA_take (.int .u8 (z.toNat)) (yG_val _ (by rfl) (fun w' hb => by (have hc := sq_byte (HS.out.on6 (S10.out.on hb).below) HZ.out; go_simp; try rfl))) ?_
  (try simp only [Act.put, List.getElem_toArray, List.getElem_cons_succ, List.getElem_cons_zero, List.setIfInBounds_toArray, List.set_cons_zero, List.set_cons_succ])
  refine wpLA_take (.int .u8 0) (yG_val _ (by rfl) (fun w' _ => by (have ha := HA.out; go_simp; try rfl))) ?_
  (try simp only [Act.put, List.getElem_toArray, List.getElem_cons_succ, List.getElem_cons_zero, List.setIfInBounds_toArray, List.set_cons_zero, List.set_cons_succ])
  refine wpLA_take (.bool false) (yG_val _ (by rfl) (fun w' _ => by (go_simp; try rfl))) ?_
  (try simp only [Act.put, List.getElem_toArray, List.getElem_cons_succ, List.getElem_cons_zero, List.setIfInBounds_toArray, List.set_cons_zero, List.set_cons_succ])
  refine wpLA_end ?_
  intro w11 hb
  have S11 := hid (S10.out.on hb)
  clear hb S10
  go_upto_region 9 with fail
  refine wpLA_start ?_
  refine wpLA_take (.agg (eF x)) (yG_part (by rfl) ET (.tmp 5) rfl p7 0 rfl ET (eF x) (eF x) (0, 0) _ S11.out.cl.1 (eF_all x) Tryz.underlying80 rfl (infoF x)) ?_
  (try simp only [Act.put, List.getElem_toArray, List.getElem_cons_succ, List.getElem_cons_zero, List.setIfInBounds_toArray, List.set_cons_zero, List.set_cons_succ])
  refine wpLA_take (.agg (eF y)) (yG_part (by rfl) ET (.tmp 4) rfl p4 0 rfl ET (eF y) (eF y) (0, 0) _ S11.out.cl.2.1 (eF_all y) Tryz.underlying80 rfl (infoF y)) ?_
  (try simp only [Act.put, List.getElem_toArray, List.getElem_cons_succ, List.getElem_cons_zero, List.setIfInBounds_toArray, List.set_cons_zero, List.set_cons_succ])
  refine wpLA_take (.agg (cP x r)) (yG_call (by rfl) (fun w' => by go_simp) (fun w' hb => KA.out w')) ?_
  (try simp only [Act.put, List.getElem_toArray, List.getElem_cons_succ, List.getElem_cons_zero, List.setIfInBounds_toArray, List.set_cons_zero, List.set_cons_succ])
  refine wpLA_alloc (by rfl) rfl zeroPc ?_
  intro p12 w12 hp hz hb
  have S12 : Hid (St w w12 [(p12, cP 0 0, PT), (p7, eF x, ET), (p4, eF y, ET), (p1, cP 0 0, PT)] []) := hid (S11.out.alloc hb hp hz)
  clear hp hz hb S11
  (try simp only [Act.put, List.getElem_toArray, List.getElem_cons_succ, List.getElem_cons_zero, List.setIfInBounds_toArray, List.set_cons_zero, List.set_cons_succ])
  refine wpLA_store rfl PT (.tmp 7) (.tmp 31) rfl p12 (cP x r) rfl rfl PT (cP 0 0) S12.out.cl.1 (infoPc x r) ((cP_size 0 0).trans (cP_size x r).symm) (cP_one x r) ?_
  intro wx hb
  have S13 : Hid (St w (wx.setRow p12 (cP x r)) [(p12, cP x r, PT), (p7, eF x, ET), (p4, eF y, ET), (p1, cP 0 0, PT)] []) := hid ((S12.out.on hb).put0 0 rfl)
  clear hb S12
  generalize wx.setRow p12 (cP x r) = w13 at S13 ⊢
  (try simp only [Act.put, List.getElem_toArray, List.getElem_cons_succ, List.getElem_cons_zero, List.setIfInBounds_toArray, List.set_cons_zero, List.set_cons_succ])
  refine wpLA_end ?_
  intro w14 hb
  have S14 := hid (S13.out.on hb)
  clear hb S13
  go_upto_region 10 with fail
  refine wpLA_start ?_
  refine wpLA_take (.agg (cP x r)) (yG_part (by rfl) PT (.tmp 7) rfl p12 0 rfl PT (cP x r) (cP x r) (0, 0) _ S14.out.cl.1 (cP_all x r) Tryz.underlying82 rfl (infoPc x r)) ?_
  (try simp only [Act.put, List.getElem_toArray, List.getElem_cons_succ, List.getElem_cons_zero, List.setIfInBounds_toArray, List.set_cons_zero, List.set_cons_succ])
  refine wpLA_bytes (ptBytes x y) (by rfl) (fun w' => by go_simp) (fun w' hb => KB.out w') ?_
  intro A15 c15 w15 hb hs
  have S15 : Hid (St w w15 [(p12, cP x r, PT), (p7, eF x, ET), (p4, eF y, ET), (p1, cP 0 0, PT)] [(A15, c15, bvs (ptBytes x y))]) := hid ((S14.out.on hb).more hs)
  clear hb hs S14
  (try simp only [Act.put, List.getElem_toArray, List.getElem_cons_succ, List.getElem_cons_zero, List.setIfInBounds_toArray, List.set_cons_zero, List.set_cons_succ])
  refine wpLA_take (.slice (some ⟨b, o, none⟩) 32 c) (yG_val _ (by rfl) (fun w' _ => by (go_simp; try rfl))) ?_
  (try simp only [Act.put, List.getElem_toArray, List.getElem_cons_succ, List.getElem_cons_zero, List.setIfInBounds_toArray, List.set_cons_zero, List.set_cons_succ])
  refine wpLA_take (.bool true) (yG_call (by rfl) (fun w' => by go_simp) (fun w' hb => (KQ.out _ _ _ _ w' (S15.out.on hb).sq.1 (HS.out.on6 ((S15.out.on hb).below))))) ?_
  (try simp only [Act.put, List.getElem_toArray, List.getElem_cons_succ, List.getElem_cons_zero, List.setIfInBounds_toArray, List.set_cons_zero, List.set_cons_succ])
  refine wpLA_take (.bool false) (yG_val _ (by rfl) (fun w' _ => by (go_simp; try rfl))) ?_
  (try simp only [Act.put, List.getElem_toArray, List.getElem_cons_succ, List.getElem_cons_zero, List.setIfInBounds_toArray, List.set_cons_zero, List.set_cons_succ])
  refine wpLA_end ?_
  intro w16 hb
  have S16 := hid (S15.out.on hb)
  clear hb S15
  have SL := hid S16.out.less
  clear S16
  go_upto_region 12 with fail
  refine wpLA_start ?_
  refine wpLA_take (.agg (cP x r)) (yG_part (by rfl) PT (.tmp 7) rfl p12 0 rfl PT (cP x r) (cP x r) (0, 0) _ SL.out.cl.1 (cP_all x r) Tryz.underlying82 rfl (infoPc x r)) ?_
  (try simp only [Act.put, List.getElem_toArray, List.getElem_cons_succ, List.getElem_cons_zero, List.setIfInBounds_toArray, List.set_cons_zero, List.set_cons_succ])
  refine wpLA_store rfl PT (.tmp 2) (.tmp 38) rfl p1 (cP x r) rfl rfl PT (cP 0 0) SL.out.cl.2.2.2.1 (infoPc x r) ((cP_size 0 0).trans (cP_size x r).symm) (cP_one x r) ?_
  intro wx hb
  have S17 : Hid (St w (wx.setRow p1 (cP x r)) [(p12, cP x r, PT), (p7, eF x, ET), (p4, eF y, ET), (p1, cP x r, PT)] []) := hid ((SL.out.on hb).put0 3 rfl)
  clear hb SL
  generalize wx.setRow p1 (cP x r) = w17 at S17 ⊢
  (try simp only [Act.put, List.getElem_toArray, List.getElem_cons_succ, List.getElem_cons_zero, List.setIfInBounds_toArray, List.set_cons_zero, List.set_cons_succ])
  refine wpLA_take (.bool true) (yG_val _ (by rfl) (fun w' _ => by (go_simp; try rfl))) ?_
  (try simp only [Act.put, List.getElem_toArray, List.getElem_cons_succ, List.getElem_cons_zero, List.setIfInBounds_toArray, List.set_cons_zero, List.set_cons_succ])
  refine wpLA_end ?_
  intro w18 hb
  have S18 := hid (S17.out.on hb)
  clear hb S17
  go_wp2_with fail
  exact bodyPost_ret (v := .tuple #[.agg (cP x r), .bool true]) (results_cell_tmp rfl _ _ ⟨p1, 0, none⟩ _ _ rfl rfl (run_loadVar_row _ p1 PT PT _ (0, 0) _ S18.out.cl.2.2.2.1 Tryz.underlying82 rfl (infoPc x r))) rfl ⟨rfl, S18.out.below⟩
set_option maxHeartbeats 1000000 in
theorem of_ln {y x r R : FF} {z : UInt8} (b o c : Nat) (w : World) {xs : List UInt8} (hS : Sq w w.heap.size (some ⟨b, o, none⟩) c (bvs xs)) (hl : xs.length = 32) (hz : xs[31]? = some z) (hy : y = ofF xs) (hR : R.val = rootN (sqX y).val) (ht : true = decide (rt2 (sqX y).val * rt2 (sqX y).val % pp = (sqX y).val)) (hb : ¬ 128 ≤ z.toNat) (hx : x = R) (hr : r = y - 1) (hq : decide (ptBytes x y = xs) = false) : Calls Tryz.prog 52 #[.slice (some ⟨b, o, none⟩) 32 c] w fun e w' => e = .returned (.tuple #[.agg (cP 0 0), .bool false]) ∧ Below w.heap.size w w' := by
  have KF := ofE hy
  rw [hl] at KF
  obtain ⟨r1, h1⟩ : ∃ v : FF, v = y * y := ⟨_, rfl⟩
  obtain ⟨r6, h6⟩ : ∃ v : FF, v = sqX y := ⟨_, rfl⟩
  rw [← h6] at hR ht
  rw [← hx] at hR
  have KE := evenC (y := y) h1 rfl rfl rfl rfl (h6.trans (by rw [h1]; rfl)) hR ht
  have KA := atC (x := x) (y := y) hr
  have KB := bytesC (x := x) (a := r) (y := y) (by rw [hr]; generalize y = y; grobner)
  have KQ : Hid (∀ (A A' : Option Addr) (c c' : Nat) (W : World), Sq W W.heap.size A c (bvs (ptBytes x y)) → Sq W W.heap.size A' c' (bvs xs) → Calls Tryz.prog 86 #[.slice A (ptBytes x y).length c, .slice A' 32 c'] W fun e w' => e = .returned (.bool false) ∧ Below W.heap.size W w') := hid fun A A' c c' W h h' => by
    have := Equal_s h h'
    rw [hl, hq] at this
    exact this.mono fun e w' he => ⟨he.1, by rw [he.2]; exact Below.refl _ _⟩
  have HA := hid (and_128 z)
  rw [if_neg hb] at HA
  have HS := hid hS; have HZ := hid hz
  clear hS hl hz hy hR ht h1 h6
  clear hx hr hq hb
  go_enter Tryz.func52, Tryz.ntmps52
  have S0 : Hid (St w w [] []) := hid (St.start w)
  go_upto_region 0 with fail
  refine wpLA_start ?_
  refine wpLA_alloc (by rfl) rfl zeroPc ?_
  intro p1 w1 hp hz hb
  have S1 : Hid (St w w1 [(p1, cP 0 0, PT)] []) := hid (S0.out.alloc hb hp hz)
  clear hp hz hb S0
  (try simp only [Act.put, List.getElem_toArray, List.getElem_cons_succ, List.getElem_cons_zero, List.setIfInBounds_toArray, List.set_cons_zero, List.set_cons_succ])
  refine wpLA_take (.bool false) (yG_val _ (by rfl) (fun w' _ => by (go_simp; try rfl))) ?_
  (try simp only [Act.put, List.getElem_toArray, List.getElem_cons_succ, List.getElem_cons_zero, List.setIfInBounds_toArray, List.set_cons_zero, List.set_cons_succ])
  refine wpLA_end ?_
  intro w2 hb
  have S2 := hid (S1.out.on hb)
  clear hb S1
  go_upto_region 1 with fail
  refine wpLA_start ?_
  refine wpLA_take (.slice (some ⟨b, o, none⟩) 32 c) (yG_val _ (by rfl) (fun w' _ => by (go_simp; try rfl))) ?_
  (try simp only [Act.put, List.getElem_toArray, List.getElem_cons_succ, List.getElem_cons_zero, List.setIfInBounds_toArray, List.set_cons_zero, List.set_cons_succ])
  refine wpLA_take (.int .i64 32) (yG_val _ (by rfl) (fun w' _ => by (go_simp; try rfl))) ?_
  (try simp only [Act.put, List.getElem_toArray, List.getElem_cons_succ, List.getElem_cons_zero, List.setIfInBounds_toArray, List.set_cons_zero, List.set_cons_succ])
  refine wpLA_take (.bool false) (yG_val _ (by rfl) (fun w' _ => by (go_simp; try rfl))) ?_
  (try simp only [Act.put, List.getElem_toArray, List.getElem_cons_succ, List.getElem_cons_zero, List.setIfInBounds_toArray, List.set_cons_zero, List.set_cons_succ])
  refine wpLA_end ?_
  intro w3 hb
  have S3 := hid (S2.out.on hb)
  clear hb S2
  go_upto_region 3 with fail
  refine wpLA_start ?_
  refine wpLA_take (.slice (some ⟨b, o, none⟩) 32 c) (yG_val _ (by rfl) (fun w' _ => by (go_simp; try rfl))) ?_
  (try simp only [Act.put, List.getElem_toArray, List.getElem_cons_succ, List.getElem_cons_zero, List.setIfInBounds_toArray, List.set_cons_zero, List.set_cons_succ])
  refine wpLA_take (.agg (eF y)) (yG_call (by rfl) (fun w' => by go_simp) (fun w' hb => KF.out _ _ w' (HS.out.on6 ((S3.out.on hb).below)))) ?_
  (try simp only [Act.put, List.getElem_toArray, List.getElem_cons_succ, List.getElem_cons_zero, List.setIfInBounds_toArray, List.set_cons_zero, List.set_cons_succ])
  refine wpLA_alloc (by rfl) rfl zeroF ?_
  intro p4 w4 hp hz hb
  have S4 : Hid (St w w4 [(p4, eF 0, ET), (p1, cP 0 0, PT)] []) := hid (S3.out.alloc hb hp hz)
  clear hp hz hb S3
  (try simp only [Act.put, List.getElem_toArray, List.getElem_cons_succ, List.getElem_cons_zero, List.setIfInBounds_toArray, List.set_cons_zero, List.set_cons_succ])
  refine wpLA_store rfl ET (.tmp 4) (.tmp 13) rfl p4 (eF y) rfl rfl ET (eF 0) S4.out.cl.1 (infoF y) ((eF_size 0).trans (eF_size y).symm) (eF_one y) ?_
  intro wx hb
  have S5 : Hid (St w (wx.setRow p4 (eF y)) [(p4, eF y, ET), (p1, cP 0 0, PT)] []) := hid ((S4.out.on hb).put0 0 rfl)
  clear hb S4
  generalize wx.setRow p4 (eF y) = w5 at S5 ⊢
  (try simp only [Act.put, List.getElem_toArray, List.getElem_cons_succ, List.getElem_cons_zero, List.setIfInBounds_toArray, List.set_cons_zero, List.set_cons_succ])
  refine wpLA_end ?_
  intro w6 hb
  have S6 := hid (S5.out.on hb)
  clear hb S5
  go_upto_region 4 with fail
  refine wpLA_start ?_
  refine wpLA_take (.agg (eF y)) (yG_part (by rfl) ET (.tmp 4) rfl p4 0 rfl ET (eF y) (eF y) (0, 0) _ S6.out.cl.1 (eF_all y) Tryz.underlying80 rfl (infoF y)) ?_
  (try simp only [Act.put, List.getElem_toArray, List.getElem_cons_succ, List.getElem_cons_zero, List.setIfInBounds_toArray, List.set_cons_zero, List.set_cons_succ])
  refine wpLA_take (.tuple #[(.agg (eF x)), (.bool true)]) (yG_call (by rfl) (fun w' => by go_simp) (fun w' hb => KE.out w')) ?_
  (try simp only [Act.put, List.getElem_toArray, List.getElem_cons_succ, List.getElem_cons_zero, List.setIfInBounds_toArray, List.set_cons_zero, List.set_cons_succ])
  refine wpLA_take (.tuple #[(.agg (eF x)), (.bool true)]) (yG_val _ (by rfl) (fun w' _ => by (go_simp; try rfl))) ?_
  (try simp only [Act.put, List.getElem_toArray, List.getElem_cons_succ, List.getElem_cons_zero, List.setIfInBounds_toArray, List.set_cons_zero, List.set_cons_succ])
  refine wpLA_take (.agg (eF x)) (yG_val _ (by rfl) (fun w' _ => by (go_simp; try rfl))) ?_
  (try simp only [Act.put, List.getElem_toArray, List.getElem_cons_succ, List.getElem_cons_zero, List.setIfInBounds_toArray, List.set_cons_zero, List.set_cons_succ])
  refine wpLA_take (.bool true) (yG_val _ (by rfl) (fun w' _ => by (go_simp; try rfl))) ?_
  (try simp only [Act.put, List.getElem_toArray, List.getElem_cons_succ, List.getElem_cons_zero, List.setIfInBounds_toArray, List.set_cons_zero, List.set_cons_succ])
  refine wpLA_alloc (by rfl) rfl zeroF ?_
  intro p7 w7 hp hz hb
  have S7 : Hid (St w w7 [(p7, eF 0, ET), (p4, eF y, ET), (p1, cP 0 0, PT)] []) := hid (S6.out.alloc hb hp hz)
  clear hp hz hb S6
  (try simp only [Act.put, List.getElem_toArray, List.getElem_cons_succ, List.getElem_cons_zero, List.setIfInBounds_toArray, List.set_cons_zero, List.set_cons_succ])
  refine wpLA_store rfl ET (.tmp 5) (.tmp 17) rfl p7 (eF x) rfl rfl ET (eF 0) S7.out.cl.1 (infoF x) ((eF_size 0).trans (eF_size x).symm) (eF_one x) ?_
  intro wx hb
  have S8 : Hid (St w (wx.setRow p7 (eF x)) [(p7, eF x, ET), (p4, eF y, ET), (p1, cP 0 0, PT)] []) := hid ((S7.out.on hb).put0 0 rfl)
  clear hb S7
  generalize wx.setRow p7 (eF x) = w8 at S8 ⊢
  (try simp only [Act.put, List.getElem_toArray, List.getElem_cons_succ, List.getElem_cons_zero, List.setIfInBounds_toArray, List.set_cons_zero, List.set_cons_succ])
  refine wpLA_take (.bool true) (yG_val _ (by rfl) (fun w' _ => by (go_simp; try rfl))) ?_
  (try simp only [Act.put, List.getElem_toArray, List.getElem_cons_succ, List.getElem_cons_zero, List.setIfInBounds_toArray, List.set_cons_zero, List.set_cons_succ])
  refine wpLA_end ?_
  intro w9 hb
  have S9 := hid (S8.out.on hb)
  clear hb S8
  go_upto_region 5 with fail
  refine wpLA_start ?_
  refine wpLA_take (.bool true) (yG_val _ (by rfl) (fun w' _ => by (go_simp; try rfl))) ?_
  (try simp only [Act.put, List.getElem_toArray, List.getElem_cons_succ, List.getElem_cons_zero, List.setIfInBounds_toArray, List.set_cons_zero, List.set_cons_succ])
  refine wpLA_take (.bool false) (yG_val _ (by rfl) (fun w' _ => by (go_simp; try rfl))) ?_
  (try simp only [Act.put, List.getElem_toArray, List.getElem_cons_succ, List.getElem_cons_zero, List.setIfInBounds_toArray, List.set_cons_zero, List.set_cons_succ])
  refine wpLA_end ?_
  intro w10 hb
  have S10 := hid (S9.out.on hb)
  clear hb S9
  go_upto_region 7 with fail
  refine wpLA_start ?_
  refine wpLA_take (.slice (some ⟨b, o, none⟩) 32 c) (yG_val _ (by rfl) (fun w' _ => by (go_simp; try rfl))) ?_
  (try simp only [Act.put, List.getElem_toArray, List.getElem_cons_succ, List.getElem_cons_zero, List.setIfInBounds_toArray, List.set_cons_zero, List.set_cons_succ])
  refine wpLA_take (.pointer (some ⟨b, o + 31, none⟩)) (yG_val _ (by rfl) (fun w' _ => by (go_simp; try rfl))) ?_
  (try simp only [Act.put, List.getElem_toArray, List.getElem_cons_succ, List.getElem_cons_zero, List.setIfInBounds_toArray, List.set_cons_zero, List.set_cons_succ])
  refine wpLA_take (.int .u8 (z.toNat)) (yG_val _ (by rfl) (fun w' hb => by (have hc := sq_byte (HS.out.on6 (S10.out.on hb).below) HZ.out; go_simp; try rfl))) ?_
  (try simp only [Act.put, List.getElem_toArray, List.getElem_cons_succ, List.getElem_cons_zero, List.setIfInBounds_toArray, List.set_cons_zero, List.set_cons_succ])
  refine wpLA_take (.int .u8 0) (yG_val _ (by rfl) (fun w' _ => by (have ha := HA.out; go_simp; try rfl))) ?_
  (try simp only [Act.put, List.getElem_toArray, List.getElem_cons_succ, List.getElem_cons_zero, List.setIfInBounds_toArray, List.set_cons_zero, List.set_cons_succ])
  refine wpLA_take (.bool false) (yG_val _ (by rfl) (fun w' _ => by (go_simp; try rfl))) ?_
  (try simp only [Act.put, List.getElem_toArray, List.getElem_cons_succ, List.getElem_cons_zero, List.setIfInBounds_toArray, List.set_cons_zero, List.set_cons_succ])
  refine wpLA_end ?_
  intro w11 hb
  have S11 := hid (S10.out.on hb)
  clear hb S10
  go_upto_region 9 with fail
  refine wpLA_start ?_
  refine wpLA_take (.agg (eF x)) (yG_part (by rfl) ET (.tmp 5) rfl p7 0 rfl ET (eF x) (eF x) (0, 0) _ S11.out.cl.1 (eF_all x) Tryz.underlying80 rfl (infoF x)) ?_
  (try simp only [Act.put, List.getElem_toArray, List.getElem_cons_succ, List.getElem_cons_zero, List.setIfInBounds_toArray, List.set_cons_zero, List.set_cons_succ])
  refine wpLA_take (.agg (eF y)) (yG_part (by rfl) ET (.tmp 4) rfl p4 0 rfl ET (eF y) (eF y) (0, 0) _ S11.out.cl.2.1 (eF_all y) Tryz.underlying80 rfl (infoF y)) ?_
  (try simp only [Act.put, List.getElem_toArray, List.getElem_cons_succ, List.getElem_cons_zero, List.setIfInBounds_toArray, List.set_cons_zero, List.set_cons_succ])
  refine wpLA_take (.agg (cP x r)) (yG_call (by rfl) (fun w' => by go_simp) (fun w' hb => KA.out w')) ?_
  (try simp only [Act.put, List.getElem_toArray, List.getElem_cons_succ, List.getElem_cons_zero, List.setIfInBounds_toArray, List.set_cons_zero, List.set_cons_succ])
  refine wpLA_alloc (by rfl) rfl zeroPc ?_
  intro p12 w12 hp hz hb
  have S12 : Hid (St w w12 [(p12, cP 0 0, PT), (p7, eF x, ET), (p4, eF y, ET), (p1, cP 0 0, PT)] []) := hid (S11.out.alloc hb hp hz)
  clear hp hz hb S11
  (try simp only [Act.put, List.getElem_toArray, List.getElem_cons_succ, List.getElem_cons_zero, List.setIfInBounds_toArray, List.set_cons_zero, List.set_cons_succ])
  refine wpLA_store rfl PT (.tmp 7) (.tmp 31) rfl p12 (cP x r) rfl rfl PT (cP 0 0) S12.out.cl.1 (infoPc x r) ((cP_size 0 0).trans (cP_size x r).symm) (cP_one x r) ?_
  intro wx hb
  have S13 : Hid (St w (wx.setRow p12 (cP x r)) [(p12, cP x r, PT), (p7, eF x, ET), (p4, eF y, ET), (p1, cP 0 0, PT)] []) := hid ((S12.out.on hb).put0 0 rfl)
  clear hb S12
  generalize wx.setRow p12 (cP x r) = w13 at S13 ⊢
  (try simp only [Act.put, List.getElem_toArray, List.getElem_cons_succ, List.getElem_cons_zero, List.setIfInBounds_toArray, List.set_cons_zero, List.set_cons_succ])
  refine wpLA_end ?_
  intro w14 hb
  have S14 := hid (S13.out.on hb)
  clear hb S13
  go_upto_region 10 with fail
  refine wpLA_start ?_
  refine wpLA_take (.agg (cP x r)) (yG_part (by rfl) PT (.tmp 7) rfl p12 0 rfl PT (cP x r) (cP x r) (0, 0) _ S14.out.cl.1 (cP_all x r) Tryz.underlying82 rfl (infoPc x r)) ?_
  (try simp only [Act.put, List.getElem_toArray, List.getElem_cons_succ, List.getElem_cons_zero, List.setIfInBounds_toArray, List.set_cons_zero, List.set_cons_succ])
  refine wpLA_bytes (ptBytes x y) (by rfl) (fun w' => by go_simp) (fun w' hb => KB.out w') ?_
  intro A15 c15 w15 hb hs
  have S15 : Hid (St w w15 [(p12, cP x r, PT), (p7, eF x, ET), (p4, eF y, ET), (p1, cP 0 0, PT)] [(A15, c15, bvs (ptBytes x y))]) := hid ((S14.out.on hb).more hs)
  clear hb hs S14
  (try simp only [Act.put, List.getElem_toArray, List.getElem_cons_succ, List.getElem_cons_zero, List.setIfInBounds_toArray, List.set_cons_zero, List.set_cons_succ])
  refine wpLA_take (.slice (some ⟨b, o, none⟩) 32 c) (yG_val _ (by rfl) (fun w' _ => by (go_simp; try rfl))) ?_
  (try simp only [Act.put, List.getElem_toArray, List.getElem_cons_succ, List.getElem_cons_zero, List.setIfInBounds_toArray, List.set_cons_zero, List.set_cons_succ])
  refine wpLA_take (.bool false) (yG_call (by rfl) (fun w' => by go_simp) (fun w' hb => (KQ.out _ _ _ _ w' (S15.out.on hb).sq.1 (HS.out.on6 ((S15.out.on hb).below))))) ?_
  (try simp only [Act.put, List.getElem_toArray, List.getElem_cons_succ, List.getElem_cons_zero, List.setIfInBounds_toArray, List.set_cons_zero, List.set_cons_succ])
  refine wpLA_take (.bool true) (yG_val _ (by rfl) (fun w' _ => by (go_simp; try rfl))) ?_
  (try simp only [Act.put, List.getElem_toArray, List.getElem_cons_succ, List.getElem_cons_zero, List.setIfInBounds_toArray, List.set_cons_zero, List.set_cons_succ])
  refine wpLA_end ?_
  intro w16 hb
  have S16 := hid (S15.out.on hb)
  clear hb S15
  have SL := hid S16.out.less
  clear S16
  go_upto_region 11 with fail
  refine wpLA_start ?_
  refine wpLA_take (.agg (cP 0 0)) (yG_build (by rfl) PT _ rfl [] rfl _ builtP0) ?_
  (try simp only [Act.put, List.getElem_toArray, List.getElem_cons_succ, List.getElem_cons_zero, List.setIfInBounds_toArray, List.set_cons_zero, List.set_cons_succ])
  refine wpLA_store rfl PT (.tmp 2) (.tmp 37) rfl p1 (cP 0 0) rfl rfl PT (cP 0 0) SL.out.cl.2.2.2.1 (infoPc 0 0) ((cP_size 0 0).trans (cP_size 0 0).symm) (cP_one 0 0) ?_
  intro wx hb
  have S17 : Hid (St w (wx.setRow p1 (cP 0 0)) [(p12, cP x r, PT), (p7, eF x, ET), (p4, eF y, ET), (p1, cP 0 0, PT)] []) := hid ((SL.out.on hb).put0 3 rfl)
  clear hb SL
  generalize wx.setRow p1 (cP 0 0) = w17 at S17 ⊢
  (try simp only [Act.put, List.getElem_toArray, List.getElem_cons_succ, List.getElem_cons_zero, List.setIfInBounds_toArray, List.set_cons_zero, List.set_cons_succ])
  refine wpLA_take (.bool false) (yG_val _ (by rfl) (fun w' _ => by (go_simp; try rfl))) ?_
  (try simp only [Act.put, List.getElem_toArray, List.getElem_cons_succ, List.getElem_cons_zero, List.setIfInBounds_toArray, List.set_cons_zero, List.set_cons_succ])
  refine wpLA_end ?_
  intro w18 hb
  have S18 := hid (S17.out.on hb)
  clear hb S17
  go_wp2_with fail
  exact bodyPost_ret (v := .tuple #[.agg (cP 0 0), .bool false]) (results_cell_tmp rfl _ _ ⟨p1, 0, none⟩ _ _ rfl rfl (run_loadVar_row _ p1 PT PT _ (0, 0) _ S18.out.cl.2.2.2.1 Tryz.underlying82 rfl (infoPc 0 0))) rfl ⟨rfl, S18.out.below⟩
end
end Go.Proofs.YtgehfbcagaaggaaGreatDoor
end
