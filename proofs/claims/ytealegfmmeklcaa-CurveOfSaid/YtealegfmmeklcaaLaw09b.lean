/-
  The statement CurveAdds: the walk.
-/
import Derived.Test.YtealegfmmeklcaaLaw09e
import Derived.Test.YtealegfmmeklcaaCutQ
import Derived.Test.YtealegfmmeklcaaSame
namespace Go.Proofs.Ytealegfmmeklcaa
open Go Go.RowKit
set_option linter.unusedVariables false
set_option linter.unusedSimpArgs false

theorem split32 {xs : List UInt8} (h : xs.length = 32) : ∃ a z, a.length = 31 ∧ xs = a ++ [z] := by
  refine ⟨xs.take 31, xs[31], by rw [List.length_take]; omega, ?_⟩
  have h1 := List.take_append_drop 31 xs
  rw [List.drop_eq_getElem_cons (by omega), List.drop_of_length_le (by omega)] at h1
  exact h1.symm
abbrev zTP : Array Value := #[.slice none 0 0, .slice none 0 0]
theorem zeroTP : (Try.prog.info? TP).map (fun i => (i.zero, i.size)) = some (some (.agg zTP), 2) := by kernel_rfl
theorem onePA (A : Option Addr) (c : Nat) (x : FF) (A' : Option Addr) (c' : Nat) (y : FF) : (ptA A c x A' c' y).all (·.oneCell') = true := by simp [Value.oneCell']
theorem builtTP (u v : Value) (hu : u.oneCell' = true) (hv : v.oneCell' = true) (A : Option Addr) (c : Nat) (x : FF) (A' : Option Addr) (c' : Nat) (y : FF) (h1 : u = .slice A (dg x.val).length c) (h2 : v = .slice A' (dg y.val).length c') : Try.prog.built TP [(0, u), (1, v)] = some (ptA A c x A' c' y) := by
  subst h1; subst h2
  kernel_rfl
theorem on_doc {p : Pt} (h : p.on) : decide (p.y * p.y - p.x * p.x = 1 + dd * (p.x * p.x * (p.y * p.y))) = true := by
  refine decide_eq_true ?_
  unfold Pt.on On at h
  generalize dd = d at *
  generalize p.x = x at *
  generalize p.y = y at *
  grobner
theorem neg_doc (p : Pt) {n : FF} (h : n = 0 - p.x) : ptBytes n p.y = pB p.neg := by
  have e : n = -p.x := by rw [h]; generalize p.x = x; grobner
  rw [e]; rfl
theorem sum_doc (p q : Pt) : (Pt.mk p.x p.y).add ⟨q.x, q.y⟩ = p.add q := rfl
theorem same_doc {p q : Pt} (hp : p.on) (hq : q.on) : decide (p = q) = (pB p == pB q) := by
  by_cases h : p = q
  · rw [decide_eq_true h, h]; simp
  · rw [decide_eq_false h]
    exact (beq_eq_false_iff_ne.2 fun e => h (pB_inj hp hq e)).symm
/-- The same bytes. -/
theorem same_is (A : Option Addr) (xs : List UInt8) (c n : Nat) (A' : Option Addr) (ys : List UInt8) (c' m : Nat) (W : World) (hS : Sq W W.heap.size A c (bvs xs)) (hS' : Sq W W.heap.size A' c' (bvs ys)) (hn : xs.length = n) (hm : ys.length = m) (hl : n ≤ 1000) :
    Calls Try.prog 20 #[.slice A n c, .slice A' m c'] W fun e w' => e = .returned (.bool (xs == ys)) ∧ Below W.heap.size W w' := by
  subst hn; subst hm
  exact calls_drew (Same_any A xs c A' ys c' W _ _ hS.lie hS'.lie (by omega))
set_option maxRecDepth 100000 in
set_option maxHeartbeats 4000000 in
theorem adds9_any (A : Option Addr) (xs : List UInt8) (c : Nat) (A' : Option Addr) (ys : List UInt8) (c' : Nat) (w : World) (hS : Sq w w.heap.size A c (bvs xs)) (hS' : Sq w w.heap.size A' c' (bvs ys)) :
    Calls Try.prog 4 #[.slice A xs.length c, .slice A' ys.length c'] w fun e w' => e = .returned (.bool true) ∧ Below w.heap.size w w' := by
  have hx := len_cap hS; have hy := len_cap hS'
  have HS := hid hS; have HS' := hid hS'
  have HAL := hid alive9_any
  obtain ⟨vx, hvx, KX⟩ := CvOf xs hx
  obtain ⟨vy, hvy, KY⟩ := CvOf ys hy
  have HVX := hid hvx; have HVY := hid hvy
  clear hS hS' hx hy hvx hvy
  cases hp : ptOf xs with
  | none =>
    rw [hp] at KX
    simp only [Option.isSome_none] at KX
    generalize (ptOf ys).isSome = byy at KY
    go_enter Try.func4, Try.ntmps4
    go_wp2_with fail
    refine (HAL.out _).mono ?_
    rintro e w0 ⟨rfl, hb⟩
    have S0 : Hid (St w w0 [] []) := hid ((St.start w).on hb)
    clear hb
    go_upto_region 3 with fail
    refine wpLA_start ?_
    refine wpLA_take (.slice A (xs.length) c) (yG_val _ (by rfl) (fun w' _ => by (go_simp; try rfl))) ?_
    (try simp only [Act.put, List.getElem_toArray, List.getElem_cons_succ, List.getElem_cons_zero, List.setIfInBounds_toArray, List.set_cons_zero, List.set_cons_succ])
    refine wpLA_take (.tuple #[(.agg (vx)), (.bool false)]) (yG_call (by rfl) (fun w' => by go_simp) (fun w' hb => KX.out _ _ w' (HS.out.on6 ((S0.out.on hb).below)))) ?_
    (try simp only [Act.put, List.getElem_toArray, List.getElem_cons_succ, List.getElem_cons_zero, List.setIfInBounds_toArray, List.set_cons_zero, List.set_cons_succ])
    refine wpLA_take (.tuple #[(.agg (vx)), (.bool false)]) (yG_val _ (by rfl) (fun w' _ => by (go_simp; try rfl))) ?_
    (try simp only [Act.put, List.getElem_toArray, List.getElem_cons_succ, List.getElem_cons_zero, List.setIfInBounds_toArray, List.set_cons_zero, List.set_cons_succ])
    refine wpLA_take (.agg (vx)) (yG_val _ (by rfl) (fun w' _ => by (go_simp; try rfl))) ?_
    (try simp only [Act.put, List.getElem_toArray, List.getElem_cons_succ, List.getElem_cons_zero, List.setIfInBounds_toArray, List.set_cons_zero, List.set_cons_succ])
    refine wpLA_take (.bool false) (yG_val _ (by rfl) (fun w' _ => by (go_simp; try rfl))) ?_
    (try simp only [Act.put, List.getElem_toArray, List.getElem_cons_succ, List.getElem_cons_zero, List.setIfInBounds_toArray, List.set_cons_zero, List.set_cons_succ])
    refine wpLA_alloc (by rfl) rfl zeroP ?_
    intro p1 w1 hp hz hb
    have S1 : Hid (St w w1 [(p1, zP, PT)] []) := hid (S0.out.alloc hb hp hz)
    clear hp hz hb S0
    (try simp only [Act.put, List.getElem_toArray, List.getElem_cons_succ, List.getElem_cons_zero, List.setIfInBounds_toArray, List.set_cons_zero, List.set_cons_succ])
    refine wpLA_store rfl PT (.tmp 5) (.tmp 18) rfl p1 (vx) rfl rfl PT (zP) S1.out.cl.1 HVX.out.info (zP_is.size2 HVX.out) HVX.out.one ?_
    intro wx hb
    have S2 : Hid (St w (wx.setRow p1 (vx)) [(p1, vx, PT)] []) := hid ((S1.out.on hb).put0 0 rfl)
    clear hb S1
    generalize wx.setRow p1 (vx) = w2 at S2 ⊢
    (try simp only [Act.put, List.getElem_toArray, List.getElem_cons_succ, List.getElem_cons_zero, List.setIfInBounds_toArray, List.set_cons_zero, List.set_cons_succ])
    refine wpLA_take (.bool false) (yG_val _ (by rfl) (fun w' _ => by (go_simp; try rfl))) ?_
    (try simp only [Act.put, List.getElem_toArray, List.getElem_cons_succ, List.getElem_cons_zero, List.setIfInBounds_toArray, List.set_cons_zero, List.set_cons_succ])
    refine wpLA_end ?_
    intro w3 hb
    have S3 := hid (S2.out.on hb)
    clear hb S2
    go_upto_region 4 with fail
    refine wpLA_start ?_
    refine wpLA_take (.slice A' (ys.length) c') (yG_val _ (by rfl) (fun w' _ => by (go_simp; try rfl))) ?_
    (try simp only [Act.put, List.getElem_toArray, List.getElem_cons_succ, List.getElem_cons_zero, List.setIfInBounds_toArray, List.set_cons_zero, List.set_cons_succ])
    refine wpLA_take (.tuple #[(.agg (vy)), (.bool byy)]) (yG_call (by rfl) (fun w' => by go_simp) (fun w' hb => KY.out _ _ w' (HS'.out.on6 ((S3.out.on hb).below)))) ?_
    (try simp only [Act.put, List.getElem_toArray, List.getElem_cons_succ, List.getElem_cons_zero, List.setIfInBounds_toArray, List.set_cons_zero, List.set_cons_succ])
    refine wpLA_take (.tuple #[(.agg (vy)), (.bool byy)]) (yG_val _ (by rfl) (fun w' _ => by (go_simp; try rfl))) ?_
    (try simp only [Act.put, List.getElem_toArray, List.getElem_cons_succ, List.getElem_cons_zero, List.setIfInBounds_toArray, List.set_cons_zero, List.set_cons_succ])
    refine wpLA_take (.agg (vy)) (yG_val _ (by rfl) (fun w' _ => by (go_simp; try rfl))) ?_
    (try simp only [Act.put, List.getElem_toArray, List.getElem_cons_succ, List.getElem_cons_zero, List.setIfInBounds_toArray, List.set_cons_zero, List.set_cons_succ])
    refine wpLA_take (.bool byy) (yG_val _ (by rfl) (fun w' _ => by (go_simp; try rfl))) ?_
    (try simp only [Act.put, List.getElem_toArray, List.getElem_cons_succ, List.getElem_cons_zero, List.setIfInBounds_toArray, List.set_cons_zero, List.set_cons_succ])
    refine wpLA_alloc (by rfl) rfl zeroP ?_
    intro p4 w4 hp hz hb
    have S4 : Hid (St w w4 [(p4, zP, PT), (p1, vx, PT)] []) := hid (S3.out.alloc hb hp hz)
    clear hp hz hb S3
    (try simp only [Act.put, List.getElem_toArray, List.getElem_cons_succ, List.getElem_cons_zero, List.setIfInBounds_toArray, List.set_cons_zero, List.set_cons_succ])
    refine wpLA_store rfl PT (.tmp 7) (.tmp 23) rfl p4 (vy) rfl rfl PT (zP) S4.out.cl.1 HVY.out.info (zP_is.size2 HVY.out) HVY.out.one ?_
    intro wx hb
    have S5 : Hid (St w (wx.setRow p4 (vy)) [(p4, vy, PT), (p1, vx, PT)] []) := hid ((S4.out.on hb).put0 0 rfl)
    clear hb S4
    generalize wx.setRow p4 (vy) = w5 at S5 ⊢
    (try simp only [Act.put, List.getElem_toArray, List.getElem_cons_succ, List.getElem_cons_zero, List.setIfInBounds_toArray, List.set_cons_zero, List.set_cons_succ])
    refine wpLA_take (.bool byy) (yG_val _ (by rfl) (fun w' _ => by (go_simp; try rfl))) ?_
    (try simp only [Act.put, List.getElem_toArray, List.getElem_cons_succ, List.getElem_cons_zero, List.setIfInBounds_toArray, List.set_cons_zero, List.set_cons_succ])
    refine wpLA_end ?_
    intro w6 hb
    have S6 := hid (S5.out.on hb)
    clear hb S5
    go_upto_region 5 with fail
    refine wpLA_start ?_
    refine wpLA_take (.bool false) (yG_val _ (by rfl) (fun w' _ => by (go_simp; try rfl))) ?_
    (try simp only [Act.put, List.getElem_toArray, List.getElem_cons_succ, List.getElem_cons_zero, List.setIfInBounds_toArray, List.set_cons_zero, List.set_cons_succ])
    refine wpLA_take (.bool true) (yG_val _ (by rfl) (fun w' _ => by (go_simp; try rfl))) ?_
    (try simp only [Act.put, List.getElem_toArray, List.getElem_cons_succ, List.getElem_cons_zero, List.setIfInBounds_toArray, List.set_cons_zero, List.set_cons_succ])
    refine wpLA_take (.bool true) (yG_val _ (by rfl) (fun w' _ => by (go_simp; try rfl))) ?_
    (try simp only [Act.put, List.getElem_toArray, List.getElem_cons_succ, List.getElem_cons_zero, List.setIfInBounds_toArray, List.set_cons_zero, List.set_cons_succ])
    refine wpLA_take undef (yG_skip (by rfl)) ?_
    (try simp only [Act.put, List.getElem_toArray, List.getElem_cons_succ, List.getElem_cons_zero, List.setIfInBounds_toArray, List.set_cons_zero, List.set_cons_succ])
    refine wpLA_take undef (yG_skip (by rfl)) ?_
    (try simp only [Act.put, List.getElem_toArray, List.getElem_cons_succ, List.getElem_cons_zero, List.setIfInBounds_toArray, List.set_cons_zero, List.set_cons_succ])
    refine wpLA_take (.bool true) (yG_val _ (by rfl) (fun w' _ => by (go_simp; try rfl))) ?_
    (try simp only [Act.put, List.getElem_toArray, List.getElem_cons_succ, List.getElem_cons_zero, List.setIfInBounds_toArray, List.set_cons_zero, List.set_cons_succ])
    refine wpLA_end ?_
    intro w7 hb
    have S7 := hid (S6.out.on hb)
    clear hb S6
    go_wp2_with fail
    go_ret
    exact ⟨rfl, S7.out.below⟩
  | some p =>
    obtain ⟨hpo, hpb⟩ := ptOf_some hp
    have hpx : ptO xs = p := by unfold ptO; rw [hp]; rfl
    rw [hpx] at HVX
    rw [hp] at KX
    simp only [Option.isSome_some] at KX
    cases hq : ptOf ys with
    | none =>
      rw [hq] at KY
      simp only [Option.isSome_none] at KY
      go_enter Try.func4, Try.ntmps4
      go_wp2_with fail
      refine (HAL.out _).mono ?_
      rintro e w0 ⟨rfl, hb⟩
      have S0 : Hid (St w w0 [] []) := hid ((St.start w).on hb)
      clear hb
      go_upto_region 3 with fail
      refine wpLA_start ?_
      refine wpLA_take (.slice A (xs.length) c) (yG_val _ (by rfl) (fun w' _ => by (go_simp; try rfl))) ?_
      (try simp only [Act.put, List.getElem_toArray, List.getElem_cons_succ, List.getElem_cons_zero, List.setIfInBounds_toArray, List.set_cons_zero, List.set_cons_succ])
      refine wpLA_take (.tuple #[(.agg (vx)), (.bool true)]) (yG_call (by rfl) (fun w' => by go_simp) (fun w' hb => KX.out _ _ w' (HS.out.on6 ((S0.out.on hb).below)))) ?_
      (try simp only [Act.put, List.getElem_toArray, List.getElem_cons_succ, List.getElem_cons_zero, List.setIfInBounds_toArray, List.set_cons_zero, List.set_cons_succ])
      refine wpLA_take (.tuple #[(.agg (vx)), (.bool true)]) (yG_val _ (by rfl) (fun w' _ => by (go_simp; try rfl))) ?_
      (try simp only [Act.put, List.getElem_toArray, List.getElem_cons_succ, List.getElem_cons_zero, List.setIfInBounds_toArray, List.set_cons_zero, List.set_cons_succ])
      refine wpLA_take (.agg (vx)) (yG_val _ (by rfl) (fun w' _ => by (go_simp; try rfl))) ?_
      (try simp only [Act.put, List.getElem_toArray, List.getElem_cons_succ, List.getElem_cons_zero, List.setIfInBounds_toArray, List.set_cons_zero, List.set_cons_succ])
      refine wpLA_take (.bool true) (yG_val _ (by rfl) (fun w' _ => by (go_simp; try rfl))) ?_
      (try simp only [Act.put, List.getElem_toArray, List.getElem_cons_succ, List.getElem_cons_zero, List.setIfInBounds_toArray, List.set_cons_zero, List.set_cons_succ])
      refine wpLA_alloc (by rfl) rfl zeroP ?_
      intro p1 w1 hp hz hb
      have S1 : Hid (St w w1 [(p1, zP, PT)] []) := hid (S0.out.alloc hb hp hz)
      clear hp hz hb S0
      (try simp only [Act.put, List.getElem_toArray, List.getElem_cons_succ, List.getElem_cons_zero, List.setIfInBounds_toArray, List.set_cons_zero, List.set_cons_succ])
      refine wpLA_store rfl PT (.tmp 5) (.tmp 18) rfl p1 (vx) rfl rfl PT (zP) S1.out.cl.1 HVX.out.info (zP_is.size2 HVX.out) HVX.out.one ?_
      intro wx hb
      have S2 : Hid (St w (wx.setRow p1 (vx)) [(p1, vx, PT)] []) := hid ((S1.out.on hb).put0 0 rfl)
      clear hb S1
      generalize wx.setRow p1 (vx) = w2 at S2 ⊢
      (try simp only [Act.put, List.getElem_toArray, List.getElem_cons_succ, List.getElem_cons_zero, List.setIfInBounds_toArray, List.set_cons_zero, List.set_cons_succ])
      refine wpLA_take (.bool true) (yG_val _ (by rfl) (fun w' _ => by (go_simp; try rfl))) ?_
      (try simp only [Act.put, List.getElem_toArray, List.getElem_cons_succ, List.getElem_cons_zero, List.setIfInBounds_toArray, List.set_cons_zero, List.set_cons_succ])
      refine wpLA_end ?_
      intro w3 hb
      have S3 := hid (S2.out.on hb)
      clear hb S2
      go_upto_region 4 with fail
      refine wpLA_start ?_
      refine wpLA_take (.slice A' (ys.length) c') (yG_val _ (by rfl) (fun w' _ => by (go_simp; try rfl))) ?_
      (try simp only [Act.put, List.getElem_toArray, List.getElem_cons_succ, List.getElem_cons_zero, List.setIfInBounds_toArray, List.set_cons_zero, List.set_cons_succ])
      refine wpLA_take (.tuple #[(.agg (vy)), (.bool false)]) (yG_call (by rfl) (fun w' => by go_simp) (fun w' hb => KY.out _ _ w' (HS'.out.on6 ((S3.out.on hb).below)))) ?_
      (try simp only [Act.put, List.getElem_toArray, List.getElem_cons_succ, List.getElem_cons_zero, List.setIfInBounds_toArray, List.set_cons_zero, List.set_cons_succ])
      refine wpLA_take (.tuple #[(.agg (vy)), (.bool false)]) (yG_val _ (by rfl) (fun w' _ => by (go_simp; try rfl))) ?_
      (try simp only [Act.put, List.getElem_toArray, List.getElem_cons_succ, List.getElem_cons_zero, List.setIfInBounds_toArray, List.set_cons_zero, List.set_cons_succ])
      refine wpLA_take (.agg (vy)) (yG_val _ (by rfl) (fun w' _ => by (go_simp; try rfl))) ?_
      (try simp only [Act.put, List.getElem_toArray, List.getElem_cons_succ, List.getElem_cons_zero, List.setIfInBounds_toArray, List.set_cons_zero, List.set_cons_succ])
      refine wpLA_take (.bool false) (yG_val _ (by rfl) (fun w' _ => by (go_simp; try rfl))) ?_
      (try simp only [Act.put, List.getElem_toArray, List.getElem_cons_succ, List.getElem_cons_zero, List.setIfInBounds_toArray, List.set_cons_zero, List.set_cons_succ])
      refine wpLA_alloc (by rfl) rfl zeroP ?_
      intro p4 w4 hp hz hb
      have S4 : Hid (St w w4 [(p4, zP, PT), (p1, vx, PT)] []) := hid (S3.out.alloc hb hp hz)
      clear hp hz hb S3
      (try simp only [Act.put, List.getElem_toArray, List.getElem_cons_succ, List.getElem_cons_zero, List.setIfInBounds_toArray, List.set_cons_zero, List.set_cons_succ])
      refine wpLA_store rfl PT (.tmp 7) (.tmp 23) rfl p4 (vy) rfl rfl PT (zP) S4.out.cl.1 HVY.out.info (zP_is.size2 HVY.out) HVY.out.one ?_
      intro wx hb
      have S5 : Hid (St w (wx.setRow p4 (vy)) [(p4, vy, PT), (p1, vx, PT)] []) := hid ((S4.out.on hb).put0 0 rfl)
      clear hb S4
      generalize wx.setRow p4 (vy) = w5 at S5 ⊢
      (try simp only [Act.put, List.getElem_toArray, List.getElem_cons_succ, List.getElem_cons_zero, List.setIfInBounds_toArray, List.set_cons_zero, List.set_cons_succ])
      refine wpLA_take (.bool false) (yG_val _ (by rfl) (fun w' _ => by (go_simp; try rfl))) ?_
      (try simp only [Act.put, List.getElem_toArray, List.getElem_cons_succ, List.getElem_cons_zero, List.setIfInBounds_toArray, List.set_cons_zero, List.set_cons_succ])
      refine wpLA_end ?_
      intro w6 hb
      have S6 := hid (S5.out.on hb)
      clear hb S5
      go_upto_region 5 with fail
      refine wpLA_start ?_
      refine wpLA_take (.bool true) (yG_val _ (by rfl) (fun w' _ => by (go_simp; try rfl))) ?_
      (try simp only [Act.put, List.getElem_toArray, List.getElem_cons_succ, List.getElem_cons_zero, List.setIfInBounds_toArray, List.set_cons_zero, List.set_cons_succ])
      refine wpLA_take (.bool false) (yG_val _ (by rfl) (fun w' _ => by (go_simp; try rfl))) ?_
      (try simp only [Act.put, List.getElem_toArray, List.getElem_cons_succ, List.getElem_cons_zero, List.setIfInBounds_toArray, List.set_cons_zero, List.set_cons_succ])
      refine wpLA_take (.bool false) (yG_val _ (by rfl) (fun w' _ => by (go_simp; try rfl))) ?_
      (try simp only [Act.put, List.getElem_toArray, List.getElem_cons_succ, List.getElem_cons_zero, List.setIfInBounds_toArray, List.set_cons_zero, List.set_cons_succ])
      refine wpLA_take (.bool false) (yG_val _ (by rfl) (fun w' _ => by (go_simp; try rfl))) ?_
      (try simp only [Act.put, List.getElem_toArray, List.getElem_cons_succ, List.getElem_cons_zero, List.setIfInBounds_toArray, List.set_cons_zero, List.set_cons_succ])
      refine wpLA_take (.bool true) (yG_val _ (by rfl) (fun w' _ => by (go_simp; try rfl))) ?_
      (try simp only [Act.put, List.getElem_toArray, List.getElem_cons_succ, List.getElem_cons_zero, List.setIfInBounds_toArray, List.set_cons_zero, List.set_cons_succ])
      refine wpLA_take (.bool true) (yG_val _ (by rfl) (fun w' _ => by (go_simp; try rfl))) ?_
      (try simp only [Act.put, List.getElem_toArray, List.getElem_cons_succ, List.getElem_cons_zero, List.setIfInBounds_toArray, List.set_cons_zero, List.set_cons_succ])
      refine wpLA_end ?_
      intro w7 hb
      have S7 := hid (S6.out.on hb)
      clear hb S6
      go_wp2_with fail
      go_ret
      exact ⟨rfl, S7.out.below⟩
    | some q =>
      obtain ⟨hqo, hqb⟩ := ptOf_some hq
      have hqx : ptO ys = q := by unfold ptO; rw [hq]; rfl
      rw [hqx] at HVY
      rw [hq] at KY
      simp only [Option.isSome_some] at KY
      have hxl : xs.length = 32 := by rw [← hpb]; exact pB_length p
      have hyl : ys.length = 32 := by rw [← hqb]; exact pB_length q
      obtain ⟨a, z, ha, hxa⟩ := split32 hxl
      obtain ⟨a2, z2, ha2, hya⟩ := split32 hyl
      have KWX := hid (fun A c W (h : Sq W W.heap.size A c (bvs xs)) => whole_any p hpo a z ha (hpb.trans hxa) A c W (by rw [← hxa]; exact h))
      have KWY := hid (fun A c W (h : Sq W W.heap.size A c (bvs ys)) => whole_any q hqo a2 z2 ha2 (hqb.trans hya) A c W (by rw [← hya]; exact h))
      have HXL := hid hxl; have HYL := hid hyl
      have hsm : decide (p = q) = (xs == ys) := by rw [← hpb, ← hqb]; exact same_doc hpo hqo
      have HSM := hid hsm
      have ON1 := on_doc hpo; have ON2 := on_doc hqo
      have KO1 : Hid (∀ A c A2 c2 W, Sq W W.heap.size A c (ivs (dg p.x.val)) → Sq W W.heap.size A2 c2 (ivs (dg p.y.val)) → Calls Try.prog 26 #[.agg (ptA A c p.x A2 c2 p.y)] W fun e w1 => e = .returned (.bool true) ∧ Below W.heap.size W w1) := hid fun A c A2 c2 W h h2 => by rw [← ON1]; exact On9_any p.x p.y A c A2 c2 W h h2
      have KO2 : Hid (∀ A c A2 c2 W, Sq W W.heap.size A c (ivs (dg q.x.val)) → Sq W W.heap.size A2 c2 (ivs (dg q.y.val)) → Calls Try.prog 26 #[.agg (ptA A c q.x A2 c2 q.y)] W fun e w1 => e = .returned (.bool true) ∧ Below W.heap.size W w1) := hid fun A c A2 c2 W h h2 => by rw [← ON2]; exact On9_any q.x q.y A c A2 c2 W h h2
      obtain ⟨nx, hnx⟩ : ∃ n : FF, n = 0 - p.x := ⟨_, rfl⟩
      have KNg := subF0 hnx
      have HNB := hid (neg_doc p hnx)
      have hsn : (xs == ys) = (xs == ys) := rfl
      rw [hxl] at KX
      rw [hyl] at KY
      rw [hxl, hyl]
      obtain ⟨sb, hsb⟩ : ∃ b, b = (xs == ys) := ⟨_, rfl⟩
      rw [← hsb] at HSM
      have HSB := hid hsb
      clear hp hq hpo hpb hpx hqo hqb hqx hxl hyl ha hxa ha2 hya hsm ON1 ON2 hnx hsn hsb
      go_enter Try.func4, Try.ntmps4
      go_wp2_with fail
      refine (HAL.out _).mono ?_
      rintro e w0 ⟨rfl, hb⟩
      have S0 : Hid (St w w0 [] []) := hid ((St.start w).on hb)
      clear hb
      go_upto_region 3 with fail
      refine wpLA_start ?_
      refine wpLA_take (.slice A 32 c) (yG_val _ (by rfl) (fun w' _ => by (go_simp; try rfl))) ?_
      (try simp only [Act.put, List.getElem_toArray, List.getElem_cons_succ, List.getElem_cons_zero, List.setIfInBounds_toArray, List.set_cons_zero, List.set_cons_succ])
      refine wpLA_take (.tuple #[(.agg (vx)), (.bool true)]) (yG_call (by rfl) (fun w' => by go_simp) (fun w' hb => KX.out _ _ w' (HS.out.on6 ((S0.out.on hb).below)))) ?_
      (try simp only [Act.put, List.getElem_toArray, List.getElem_cons_succ, List.getElem_cons_zero, List.setIfInBounds_toArray, List.set_cons_zero, List.set_cons_succ])
      refine wpLA_take (.tuple #[(.agg (vx)), (.bool true)]) (yG_val _ (by rfl) (fun w' _ => by (go_simp; try rfl))) ?_
      (try simp only [Act.put, List.getElem_toArray, List.getElem_cons_succ, List.getElem_cons_zero, List.setIfInBounds_toArray, List.set_cons_zero, List.set_cons_succ])
      refine wpLA_take (.agg (vx)) (yG_val _ (by rfl) (fun w' _ => by (go_simp; try rfl))) ?_
      (try simp only [Act.put, List.getElem_toArray, List.getElem_cons_succ, List.getElem_cons_zero, List.setIfInBounds_toArray, List.set_cons_zero, List.set_cons_succ])
      refine wpLA_take (.bool true) (yG_val _ (by rfl) (fun w' _ => by (go_simp; try rfl))) ?_
      (try simp only [Act.put, List.getElem_toArray, List.getElem_cons_succ, List.getElem_cons_zero, List.setIfInBounds_toArray, List.set_cons_zero, List.set_cons_succ])
      refine wpLA_alloc (by rfl) rfl zeroP ?_
      intro p1 w1 hp hz hb
      have S1 : Hid (St w w1 [(p1, zP, PT)] []) := hid (S0.out.alloc hb hp hz)
      clear hp hz hb S0
      (try simp only [Act.put, List.getElem_toArray, List.getElem_cons_succ, List.getElem_cons_zero, List.setIfInBounds_toArray, List.set_cons_zero, List.set_cons_succ])
      refine wpLA_store rfl PT (.tmp 5) (.tmp 18) rfl p1 (vx) rfl rfl PT (zP) S1.out.cl.1 HVX.out.info (zP_is.size2 HVX.out) HVX.out.one ?_
      intro wx hb
      have S2 : Hid (St w (wx.setRow p1 (vx)) [(p1, vx, PT)] []) := hid ((S1.out.on hb).put0 0 rfl)
      clear hb S1
      generalize wx.setRow p1 (vx) = w2 at S2 ⊢
      (try simp only [Act.put, List.getElem_toArray, List.getElem_cons_succ, List.getElem_cons_zero, List.setIfInBounds_toArray, List.set_cons_zero, List.set_cons_succ])
      refine wpLA_take (.bool true) (yG_val _ (by rfl) (fun w' _ => by (go_simp; try rfl))) ?_
      (try simp only [Act.put, List.getElem_toArray, List.getElem_cons_succ, List.getElem_cons_zero, List.setIfInBounds_toArray, List.set_cons_zero, List.set_cons_succ])
      refine wpLA_end ?_
      intro w3 hb
      have S3 := hid (S2.out.on hb)
      clear hb S2
      go_upto_region 4 with fail
      refine wpLA_start ?_
      refine wpLA_take (.slice A' 32 c') (yG_val _ (by rfl) (fun w' _ => by (go_simp; try rfl))) ?_
      (try simp only [Act.put, List.getElem_toArray, List.getElem_cons_succ, List.getElem_cons_zero, List.setIfInBounds_toArray, List.set_cons_zero, List.set_cons_succ])
      refine wpLA_take (.tuple #[(.agg (vy)), (.bool true)]) (yG_call (by rfl) (fun w' => by go_simp) (fun w' hb => KY.out _ _ w' (HS'.out.on6 ((S3.out.on hb).below)))) ?_
      (try simp only [Act.put, List.getElem_toArray, List.getElem_cons_succ, List.getElem_cons_zero, List.setIfInBounds_toArray, List.set_cons_zero, List.set_cons_succ])
      refine wpLA_take (.tuple #[(.agg (vy)), (.bool true)]) (yG_val _ (by rfl) (fun w' _ => by (go_simp; try rfl))) ?_
      (try simp only [Act.put, List.getElem_toArray, List.getElem_cons_succ, List.getElem_cons_zero, List.setIfInBounds_toArray, List.set_cons_zero, List.set_cons_succ])
      refine wpLA_take (.agg (vy)) (yG_val _ (by rfl) (fun w' _ => by (go_simp; try rfl))) ?_
      (try simp only [Act.put, List.getElem_toArray, List.getElem_cons_succ, List.getElem_cons_zero, List.setIfInBounds_toArray, List.set_cons_zero, List.set_cons_succ])
      refine wpLA_take (.bool true) (yG_val _ (by rfl) (fun w' _ => by (go_simp; try rfl))) ?_
      (try simp only [Act.put, List.getElem_toArray, List.getElem_cons_succ, List.getElem_cons_zero, List.setIfInBounds_toArray, List.set_cons_zero, List.set_cons_succ])
      refine wpLA_alloc (by rfl) rfl zeroP ?_
      intro p4 w4 hp hz hb
      have S4 : Hid (St w w4 [(p4, zP, PT), (p1, vx, PT)] []) := hid (S3.out.alloc hb hp hz)
      clear hp hz hb S3
      (try simp only [Act.put, List.getElem_toArray, List.getElem_cons_succ, List.getElem_cons_zero, List.setIfInBounds_toArray, List.set_cons_zero, List.set_cons_succ])
      refine wpLA_store rfl PT (.tmp 7) (.tmp 23) rfl p4 (vy) rfl rfl PT (zP) S4.out.cl.1 HVY.out.info (zP_is.size2 HVY.out) HVY.out.one ?_
      intro wx hb
      have S5 : Hid (St w (wx.setRow p4 (vy)) [(p4, vy, PT), (p1, vx, PT)] []) := hid ((S4.out.on hb).put0 0 rfl)
      clear hb S4
      generalize wx.setRow p4 (vy) = w5 at S5 ⊢
      (try simp only [Act.put, List.getElem_toArray, List.getElem_cons_succ, List.getElem_cons_zero, List.setIfInBounds_toArray, List.set_cons_zero, List.set_cons_succ])
      refine wpLA_take (.bool true) (yG_val _ (by rfl) (fun w' _ => by (go_simp; try rfl))) ?_
      (try simp only [Act.put, List.getElem_toArray, List.getElem_cons_succ, List.getElem_cons_zero, List.setIfInBounds_toArray, List.set_cons_zero, List.set_cons_succ])
      refine wpLA_end ?_
      intro w6 hb
      have S6 := hid (S5.out.on hb)
      clear hb S5
      go_upto_region 5 with fail
      refine wpLA_start ?_
      refine wpLA_take (.bool true) (yG_val _ (by rfl) (fun w' _ => by (go_simp; try rfl))) ?_
      (try simp only [Act.put, List.getElem_toArray, List.getElem_cons_succ, List.getElem_cons_zero, List.setIfInBounds_toArray, List.set_cons_zero, List.set_cons_succ])
      refine wpLA_take (.bool false) (yG_val _ (by rfl) (fun w' _ => by (go_simp; try rfl))) ?_
      (try simp only [Act.put, List.getElem_toArray, List.getElem_cons_succ, List.getElem_cons_zero, List.setIfInBounds_toArray, List.set_cons_zero, List.set_cons_succ])
      refine wpLA_take (.bool false) (yG_val _ (by rfl) (fun w' _ => by (go_simp; try rfl))) ?_
      (try simp only [Act.put, List.getElem_toArray, List.getElem_cons_succ, List.getElem_cons_zero, List.setIfInBounds_toArray, List.set_cons_zero, List.set_cons_succ])
      refine wpLA_take (.bool true) (yG_val _ (by rfl) (fun w' _ => by (go_simp; try rfl))) ?_
      (try simp only [Act.put, List.getElem_toArray, List.getElem_cons_succ, List.getElem_cons_zero, List.setIfInBounds_toArray, List.set_cons_zero, List.set_cons_succ])
      refine wpLA_take (.bool false) (yG_val _ (by rfl) (fun w' _ => by (go_simp; try rfl))) ?_
      (try simp only [Act.put, List.getElem_toArray, List.getElem_cons_succ, List.getElem_cons_zero, List.setIfInBounds_toArray, List.set_cons_zero, List.set_cons_succ])
      refine wpLA_take (.bool false) (yG_val _ (by rfl) (fun w' _ => by (go_simp; try rfl))) ?_
      (try simp only [Act.put, List.getElem_toArray, List.getElem_cons_succ, List.getElem_cons_zero, List.setIfInBounds_toArray, List.set_cons_zero, List.set_cons_succ])
      refine wpLA_end ?_
      intro w7 hb
      have S7 := hid (S6.out.on hb)
      clear hb S6
      go_upto_region 7 with fail
      refine wpLA_start ?_
      refine wpLA_take (.agg (vx)) (yG_part (by rfl) PT (.tmp 5) rfl p1 0 rfl PT (vx) (vx) (0, 0) _ S7.out.cl.2.1 HVX.out.all Try.underlying28 rfl HVX.out.info) ?_
      (try simp only [Act.put, List.getElem_toArray, List.getElem_cons_succ, List.getElem_cons_zero, List.setIfInBounds_toArray, List.set_cons_zero, List.set_cons_succ])
      refine wpLA_take (.agg (vy)) (yG_part (by rfl) PT (.tmp 7) rfl p4 0 rfl PT (vy) (vy) (0, 0) _ S7.out.cl.1 HVY.out.all Try.underlying28 rfl HVY.out.info) ?_
      (try simp only [Act.put, List.getElem_toArray, List.getElem_cons_succ, List.getElem_cons_zero, List.setIfInBounds_toArray, List.set_cons_zero, List.set_cons_succ])
      obtain ⟨s1, g1, L1⟩ := CvAdd HVX.out HVY.out
      have G1 := hid g1
      clear g1
      refine wpLA_take (.agg (s1)) (yG_call (by rfl) (fun w' => by go_simp) (fun w' hb => L1.out w')) ?_
      (try simp only [Act.put, List.getElem_toArray, List.getElem_cons_succ, List.getElem_cons_zero, List.setIfInBounds_toArray, List.set_cons_zero, List.set_cons_succ])
      have L2 := CvBytes G1.out
      refine wpLA_bytes (pB (p.add q)) (by rfl) (fun w' => by go_simp) (fun w' hb => L2.out w') ?_
      intro A8 c8 w8 hb hs
      have S8 : Hid (St w w8 [(p4, vy, PT), (p1, vx, PT)] [(A8, c8, bvs (pB (p.add q)))]) := hid ((S7.out.on hb).more hs)
      clear hb hs S7
      (try simp only [Act.put, List.getElem_toArray, List.getElem_cons_succ, List.getElem_cons_zero, List.setIfInBounds_toArray, List.set_cons_zero, List.set_cons_succ])
      refine wpLA_take (.slice A8 ((pB (p.add q)).length) c8) (yG_val _ (by rfl) (fun w' _ => by (go_simp; try rfl))) ?_
      (try simp only [Act.put, List.getElem_toArray, List.getElem_cons_succ, List.getElem_cons_zero, List.setIfInBounds_toArray, List.set_cons_zero, List.set_cons_succ])
      refine wpLA_end ?_
      intro w9 hb
      have S9 := hid (S8.out.on hb)
      clear hb S8
      go_upto_region 8 with fail
      refine wpLA_start ?_
      refine wpLA_take (.slice A 32 c) (yG_val _ (by rfl) (fun w' _ => by (go_simp; try rfl))) ?_
      (try simp only [Act.put, List.getElem_toArray, List.getElem_cons_succ, List.getElem_cons_zero, List.setIfInBounds_toArray, List.set_cons_zero, List.set_cons_succ])
      refine wpLA_pt p.x p.y (by rfl) (fun w' => by go_simp) (fun w' hb => KWX.out _ _ w' (HS.out.on6 ((S9.out.on hb).below))) ?_
      intro A10 c10 B10 d10 w10 hb hs hs2
      have S10 : Hid (St w w10 [(p4, vy, PT), (p1, vx, PT)] [(A10, c10, ivs (dg p.x.val)), (B10, d10, ivs (dg p.y.val)), (A8, c8, bvs (pB (p.add q)))]) := hid (((S9.out.on hb).more hs2).more hs)
      clear hb hs hs2 S9
      (try simp only [Act.put, List.getElem_toArray, List.getElem_cons_succ, List.getElem_cons_zero, List.setIfInBounds_toArray, List.set_cons_zero, List.set_cons_succ])
      refine wpLA_take (.slice A' 32 c') (yG_val _ (by rfl) (fun w' _ => by (go_simp; try rfl))) ?_
      (try simp only [Act.put, List.getElem_toArray, List.getElem_cons_succ, List.getElem_cons_zero, List.setIfInBounds_toArray, List.set_cons_zero, List.set_cons_succ])
      refine wpLA_pt q.x q.y (by rfl) (fun w' => by go_simp) (fun w' hb => KWY.out _ _ w' (HS'.out.on6 ((S10.out.on hb).below))) ?_
      intro A11 c11 B11 d11 w11 hb hs hs2
      have S11 : Hid (St w w11 [(p4, vy, PT), (p1, vx, PT)] [(A11, c11, ivs (dg q.x.val)), (B11, d11, ivs (dg q.y.val)), (A10, c10, ivs (dg p.x.val)), (B10, d10, ivs (dg p.y.val)), (A8, c8, bvs (pB (p.add q)))]) := hid (((S10.out.on hb).more hs2).more hs)
      clear hb hs hs2 S10
      (try simp only [Act.put, List.getElem_toArray, List.getElem_cons_succ, List.getElem_cons_zero, List.setIfInBounds_toArray, List.set_cons_zero, List.set_cons_succ])
      refine wpLA_alloc (by rfl) rfl zeroTP ?_
      intro p12 w12 hp hz hb
      have N12 := hid (S11.out.sq.far hp)
      have S12 : Hid (St w w12 [(p12, zTP, TP), (p4, vy, PT), (p1, vx, PT)] [(A11, c11, ivs (dg q.x.val)), (B11, d11, ivs (dg q.y.val)), (A10, c10, ivs (dg p.x.val)), (B10, d10, ivs (dg p.y.val)), (A8, c8, bvs (pB (p.add q)))]) := hid (S11.out.alloc hb hp hz)
      clear hp hz hb S11
      (try simp only [Act.put, List.getElem_toArray, List.getElem_cons_succ, List.getElem_cons_zero, List.setIfInBounds_toArray, List.set_cons_zero, List.set_cons_succ])
      refine wpLA_alloc (by rfl) rfl zeroTP ?_
      intro p13 w13 hp hz hb
      have N13 := hid (S12.out.sq.far hp)
      have S13 : Hid (St w w13 [(p13, zTP, TP), (p12, zTP, TP), (p4, vy, PT), (p1, vx, PT)] [(A11, c11, ivs (dg q.x.val)), (B11, d11, ivs (dg q.y.val)), (A10, c10, ivs (dg p.x.val)), (B10, d10, ivs (dg p.y.val)), (A8, c8, bvs (pB (p.add q)))]) := hid (S12.out.alloc hb hp hz)
      clear hp hz hb S12
      (try simp only [Act.put, List.getElem_toArray, List.getElem_cons_succ, List.getElem_cons_zero, List.setIfInBounds_toArray, List.set_cons_zero, List.set_cons_succ])
      refine wpLA_store rfl TP (.tmp 10) (.tmp 36) rfl p12 (ptA A10 c10 p.x B10 d10 p.y) rfl rfl TP (zTP) S13.out.cl.2.1 infoP rfl (onePA _ _ _ _ _ _) ?_
      intro wx hb
      have S14 : Hid (St w (wx.setRow p12 (ptA A10 c10 p.x B10 d10 p.y)) [(p13, zTP, TP), (p12, ptA A10 c10 p.x B10 d10 p.y, TP), (p4, vy, PT), (p1, vx, PT)] [(A11, c11, ivs (dg q.x.val)), (B11, d11, ivs (dg q.y.val)), (A10, c10, ivs (dg p.x.val)), (B10, d10, ivs (dg p.y.val)), (A8, c8, bvs (pB (p.add q)))]) := hid ((S13.out.on hb).put 1 rfl N12.out)
      clear hb S13
      generalize wx.setRow p12 (ptA A10 c10 p.x B10 d10 p.y) = w14 at S14 ⊢
      (try simp only [Act.put, List.getElem_toArray, List.getElem_cons_succ, List.getElem_cons_zero, List.setIfInBounds_toArray, List.set_cons_zero, List.set_cons_succ])
      refine wpLA_store rfl TP (.tmp 11) (.tmp 38) rfl p13 (ptA A11 c11 q.x B11 d11 q.y) rfl rfl TP (zTP) S14.out.cl.1 infoP rfl (onePA _ _ _ _ _ _) ?_
      intro wx hb
      have S15 : Hid (St w (wx.setRow p13 (ptA A11 c11 q.x B11 d11 q.y)) [(p13, ptA A11 c11 q.x B11 d11 q.y, TP), (p12, ptA A10 c10 p.x B10 d10 p.y, TP), (p4, vy, PT), (p1, vx, PT)] [(A11, c11, ivs (dg q.x.val)), (B11, d11, ivs (dg q.y.val)), (A10, c10, ivs (dg p.x.val)), (B10, d10, ivs (dg p.y.val)), (A8, c8, bvs (pB (p.add q)))]) := hid ((S14.out.on hb).put 0 rfl N13.out)
      clear hb S14
      generalize wx.setRow p13 (ptA A11 c11 q.x B11 d11 q.y) = w15 at S15 ⊢
      (try simp only [Act.put, List.getElem_toArray, List.getElem_cons_succ, List.getElem_cons_zero, List.setIfInBounds_toArray, List.set_cons_zero, List.set_cons_succ])
      refine wpLA_end ?_
      intro w16 hb
      have S16 := hid (S15.out.on hb)
      clear hb S15
      go_upto_region 9 with fail
      refine wp_cutA (fun a0 e a1 wr => e = .normal ∧ ∃ (A9 : Option Addr) (c9 pp9 : Nat), a1 = (((((((a0.put (some 39) (.pointer (some ⟨p12, 0, none⟩))).put (some 40) ((.slice A10 ((dg p.x.val).length) c10))).put (some 41) (.slice A9 (dg nx.val).length c9)).put (some 42) (.pointer (some ⟨p12, 1, none⟩))).put (some 43) ((.slice B10 ((dg p.y.val).length) d10))).put (some 44) (.agg (ptA A9 c9 nx B10 d10 p.y))).put (some 12) (.pointer (some ⟨pp9, 0, none⟩))) ∧ St w wr [(pp9, ptA A9 c9 nx B10 d10 p.y, TP), (p13, ptA A11 c11 q.x B11 d11 q.y, TP), (p12, ptA A10 c10 p.x B10 d10 p.y, TP), (p4, vy, PT), (p1, vx, PT)] [(A9, c9, ivs (dg nx.val)), (A11, c11, ivs (dg q.x.val)), (B11, d11, ivs (dg q.y.val)), (A10, c10, ivs (dg p.x.val)), (B10, d10, ivs (dg p.y.val)), (A8, c8, bvs (pB (p.add q)))]) ?rest ?first
      case first =>
        refine wp_region_grA 7 (by kernel_rfl) (by decide) ?_
        refine wpGrA_take (i := 0) (.pointer (some ⟨p12, 0, none⟩)) rfl (by kernel_rfl) (by kernel_rfl) (fun _ _ _ h => (nomatch h.1)) (yG_val _ (by rfl) (fun w' _ => by (go_simp; try rfl))) ?_
        (try simp only [Act.put, List.getElem_toArray, List.getElem_cons_succ, List.getElem_cons_zero, List.setIfInBounds_toArray, List.set_cons_zero, List.set_cons_succ])
        refine wpGrA_take (i := 1) (.slice A10 ((dg p.x.val).length) c10) rfl (by kernel_rfl) (by kernel_rfl) (fun _ _ _ h => (nomatch h.1)) (yG_val _ (by rfl) (fun w' hb => by (have hc : w'.cell? ⟨p12, 0, none⟩ = some (.slice A10 ((dg p.x.val).length) c10) := cell_of (S16.out.on hb).cl.2.1 0 _ rfl; go_simp; try rfl))) ?_
        (try simp only [Act.put, List.getElem_toArray, List.getElem_cons_succ, List.getElem_cons_zero, List.setIfInBounds_toArray, List.set_cons_zero, List.set_cons_succ])
        refine wpGrA_take (i := 3) (.pointer (some ⟨p12, 1, none⟩)) rfl (by kernel_rfl) (by kernel_rfl) (fun _ _ _ h => (nomatch h.1)) (yG_val _ (by rfl) (fun w' _ => by (go_simp; try rfl))) ?_
        (try simp only [Act.put, List.getElem_toArray, List.getElem_cons_succ, List.getElem_cons_zero, List.setIfInBounds_toArray, List.set_cons_zero, List.set_cons_succ])
        refine wpGrA_take (i := 4) (.slice B10 ((dg p.y.val).length) d10) rfl (by kernel_rfl) (by kernel_rfl) (fun _ _ _ h => (nomatch h.1)) (yG_val _ (by rfl) (fun w' hb => by (have hc : w'.cell? ⟨p12, 1, none⟩ = some (.slice B10 ((dg p.y.val).length) d10) := cell_of (S16.out.on hb).cl.2.1 1 _ rfl; go_simp; try rfl))) ?_
        (try simp only [Act.put, List.getElem_toArray, List.getElem_cons_succ, List.getElem_cons_zero, List.setIfInBounds_toArray, List.set_cons_zero, List.set_cons_succ])
        refine wpGrA_big_alloc (i := 2) (j := 6) nx.val rfl rfl (by kernel_rfl) (by rfl) (fun w' => by go_simp) (fun w' hb => KNg.out w' _ _ (S16.out.on hb).sq.2.2.1) rfl rfl zeroTP ?_ ?_
        · intro A17 c17 w17 hb hs
          have S17 : Hid (St w w17 [(p13, ptA A11 c11 q.x B11 d11 q.y, TP), (p12, ptA A10 c10 p.x B10 d10 p.y, TP), (p4, vy, PT), (p1, vx, PT)] [(A17, c17, ivs (dg nx.val)), (A11, c11, ivs (dg q.x.val)), (B11, d11, ivs (dg q.y.val)), (A10, c10, ivs (dg p.x.val)), (B10, d10, ivs (dg p.y.val)), (A8, c8, bvs (pB (p.add q)))]) := hid ((S16.out.on hb).more hs)
          clear hb hs S16
          (try simp only [Act.put, List.getElem_toArray, List.getElem_cons_succ, List.getElem_cons_zero, List.setIfInBounds_toArray, List.set_cons_zero, List.set_cons_succ])
          refine wpGrA_take (i := 5) (.agg (ptA A17 c17 nx B10 d10 p.y)) rfl (by kernel_rfl) (by kernel_rfl) (fun _ _ _ h => (nomatch h.1)) (yG_build (by rfl) TP _ rfl [(0, .slice A17 (dg nx.val).length c17), (1, (.slice B10 ((dg p.y.val).length) d10))] rfl _ (builtTP _ _ rfl rfl A17 c17 nx B10 d10 p.y rfl rfl)) ?_
          (try simp only [Act.put, List.getElem_toArray, List.getElem_cons_succ, List.getElem_cons_zero, List.setIfInBounds_toArray, List.set_cons_zero, List.set_cons_succ])
          refine wpGrA_alloc (i := 6) rfl rfl rfl zeroTP (by kernel_rfl) ?_
          intro p18 w18 hp hz hb
          have S18 : Hid (St w w18 [(p18, zTP, TP), (p13, ptA A11 c11 q.x B11 d11 q.y, TP), (p12, ptA A10 c10 p.x B10 d10 p.y, TP), (p4, vy, PT), (p1, vx, PT)] [(A17, c17, ivs (dg nx.val)), (A11, c11, ivs (dg q.x.val)), (B11, d11, ivs (dg q.y.val)), (A10, c10, ivs (dg p.x.val)), (B10, d10, ivs (dg p.y.val)), (A8, c8, bvs (pB (p.add q)))]) := hid (S17.out.alloc hb hp hz)
          clear hp hz hb S17
          (try simp only [Act.put, List.getElem_toArray, List.getElem_cons_succ, List.getElem_cons_zero, List.setIfInBounds_toArray, List.set_cons_zero, List.set_cons_succ])
          refine wpLA_here ?_
          have NF := hid (Sqs.notNo S18.out.cl.1 NoInt.two (show IntM [(A17, c17, ivs (dg nx.val)), (A11, c11, ivs (dg q.x.val)), (B11, d11, ivs (dg q.y.val)), (A10, c10, ivs (dg p.x.val)), (B10, d10, ivs (dg p.y.val)), (A8, c8, bvs (pB (p.add q)))] from ⟨ivs_int _, ivs_int _, ivs_int _, ivs_int _, ivs_int _, bvs_int _, trivial⟩) S18.out.sq)
          refine wpLA_store rfl TP (.tmp 12) (.tmp 44) rfl p18 (ptA A17 c17 nx B10 d10 p.y) rfl rfl TP (zTP) S18.out.cl.1 infoP rfl (onePA _ _ _ _ _ _) ?_
          intro wx hb
          have S19 : Hid (St w (wx.setRow p18 (ptA A17 c17 nx B10 d10 p.y)) [(p18, ptA A17 c17 nx B10 d10 p.y, TP), (p13, ptA A11 c11 q.x B11 d11 q.y, TP), (p12, ptA A10 c10 p.x B10 d10 p.y, TP), (p4, vy, PT), (p1, vx, PT)] [(A17, c17, ivs (dg nx.val)), (A11, c11, ivs (dg q.x.val)), (B11, d11, ivs (dg q.y.val)), (A10, c10, ivs (dg p.x.val)), (B10, d10, ivs (dg p.y.val)), (A8, c8, bvs (pB (p.add q)))]) := hid ((S18.out.on hb).put 0 rfl NF.out)
          clear hb S18
          generalize wx.setRow p18 (ptA A17 c17 nx B10 d10 p.y) = w19 at S19 ⊢
          (try simp only [Act.put, List.getElem_toArray, List.getElem_cons_succ, List.getElem_cons_zero, List.setIfInBounds_toArray, List.set_cons_zero, List.set_cons_succ])
          refine wpLA_end ?_
          intro w20 hb
          exact ⟨rfl, _, _, _, rfl, S19.out.on hb⟩
        · intro p21 w21 hp hz hb
          have S21 : Hid (St w w21 [(p21, zTP, TP), (p13, ptA A11 c11 q.x B11 d11 q.y, TP), (p12, ptA A10 c10 p.x B10 d10 p.y, TP), (p4, vy, PT), (p1, vx, PT)] [(A11, c11, ivs (dg q.x.val)), (B11, d11, ivs (dg q.y.val)), (A10, c10, ivs (dg p.x.val)), (B10, d10, ivs (dg p.y.val)), (A8, c8, bvs (pB (p.add q)))]) := hid (S16.out.alloc hb hp hz)
          clear hp hz hb S16
          (try simp only [Act.put, List.getElem_toArray, List.getElem_cons_succ, List.getElem_cons_zero, List.setIfInBounds_toArray, List.set_cons_zero, List.set_cons_succ])
          refine wpGrA_big (i := 2) (nx.val) rfl (by kernel_rfl) (by rfl) (fun w' => by go_simp) (fun w' hb => KNg.out w' _ _ (S21.out.on hb).sq.2.2.1) ?_
          intro A22 c22 w22 hb hs
          have S22 : Hid (St w w22 [(p21, zTP, TP), (p13, ptA A11 c11 q.x B11 d11 q.y, TP), (p12, ptA A10 c10 p.x B10 d10 p.y, TP), (p4, vy, PT), (p1, vx, PT)] [(A22, c22, ivs (dg (nx.val))), (A11, c11, ivs (dg q.x.val)), (B11, d11, ivs (dg q.y.val)), (A10, c10, ivs (dg p.x.val)), (B10, d10, ivs (dg p.y.val)), (A8, c8, bvs (pB (p.add q)))]) := hid ((S21.out.on hb).more hs)
          clear hb hs S21
          (try simp only [Act.put, List.getElem_toArray, List.getElem_cons_succ, List.getElem_cons_zero, List.setIfInBounds_toArray, List.set_cons_zero, List.set_cons_succ])
          refine wpGrA_take (i := 5) (.agg (ptA A22 c22 nx B10 d10 p.y)) rfl (by kernel_rfl) (by kernel_rfl) (fun _ _ _ h => (nomatch h.1)) (yG_build (by rfl) TP _ rfl [(0, .slice A22 (dg nx.val).length c22), (1, (.slice B10 ((dg p.y.val).length) d10))] rfl _ (builtTP _ _ rfl rfl A22 c22 nx B10 d10 p.y rfl rfl)) ?_
          (try simp only [Act.put, List.getElem_toArray, List.getElem_cons_succ, List.getElem_cons_zero, List.setIfInBounds_toArray, List.set_cons_zero, List.set_cons_succ])
          refine wpGrA_end (by kernel_rfl) ?_
          intro w23 hb
          have S23 := hid (S22.out.on hb)
          clear hb S22
          refine wpLA_here ?_
          have NF := hid (Sqs.notNo S23.out.cl.1 NoInt.two (show IntM [(A22, c22, ivs (dg (nx.val))), (A11, c11, ivs (dg q.x.val)), (B11, d11, ivs (dg q.y.val)), (A10, c10, ivs (dg p.x.val)), (B10, d10, ivs (dg p.y.val)), (A8, c8, bvs (pB (p.add q)))] from ⟨ivs_int _, ivs_int _, ivs_int _, ivs_int _, ivs_int _, bvs_int _, trivial⟩) S23.out.sq)
          refine wpLA_store rfl TP (.tmp 12) (.tmp 44) rfl p21 (ptA A22 c22 nx B10 d10 p.y) rfl rfl TP (zTP) S23.out.cl.1 infoP rfl (onePA _ _ _ _ _ _) ?_
          intro wx hb
          have S24 : Hid (St w (wx.setRow p21 (ptA A22 c22 nx B10 d10 p.y)) [(p21, ptA A22 c22 nx B10 d10 p.y, TP), (p13, ptA A11 c11 q.x B11 d11 q.y, TP), (p12, ptA A10 c10 p.x B10 d10 p.y, TP), (p4, vy, PT), (p1, vx, PT)] [(A22, c22, ivs (dg (nx.val))), (A11, c11, ivs (dg q.x.val)), (B11, d11, ivs (dg q.y.val)), (A10, c10, ivs (dg p.x.val)), (B10, d10, ivs (dg p.y.val)), (A8, c8, bvs (pB (p.add q)))]) := hid ((S23.out.on hb).put 0 rfl NF.out)
          clear hb S23
          generalize wx.setRow p21 (ptA A22 c22 nx B10 d10 p.y) = w24 at S24 ⊢
          (try simp only [Act.put, List.getElem_toArray, List.getElem_cons_succ, List.getElem_cons_zero, List.setIfInBounds_toArray, List.set_cons_zero, List.set_cons_succ])
          refine wpLA_end ?_
          intro w25 hb
          exact ⟨rfl, _, _, _, rfl, S24.out.on hb⟩
      case rest =>
        rintro e a1 wr ⟨rfl, A9, c9, pp9, rfl, hs9⟩
        have S99 := hid hs9
        clear hs9 S16
        (try simp only [Act.put, List.getElem_toArray, List.getElem_cons_succ, List.getElem_cons_zero, List.setIfInBounds_toArray, List.set_cons_zero, List.set_cons_succ])
        go_upto_region 10 with fail
        refine wp_region_grA 29 (by kernel_rfl) (by decide) ?_
        refine wpGrA_take (i := 0) (.agg (ptA A10 c10 p.x B10 d10 p.y)) rfl (by kernel_rfl) (by kernel_rfl) (fun _ _ _ h => h) (yG_part (by rfl) TP (.tmp 10) rfl p12 0 rfl TP (ptA A10 c10 p.x B10 d10 p.y) (ptA A10 c10 p.x B10 d10 p.y) (0, 0) _ S99.out.cl.2.2.1 rfl Try.underlying49 rfl infoP) ?_
        (try simp only [Act.put, List.getElem_toArray, List.getElem_cons_succ, List.getElem_cons_zero, List.setIfInBounds_toArray, List.set_cons_zero, List.set_cons_succ])
        refine wpGrA_take (i := 1) (.bool true) rfl (by kernel_rfl) (by kernel_rfl) (fun _ _ _ h => h) (yG_call (by rfl) (fun w' => by go_simp) (fun w' hb => KO1.out _ _ _ _ w' (S99.out.on hb).sq.2.2.2.1 (S99.out.on hb).sq.2.2.2.2.1)) ?_
        (try simp only [Act.put, List.getElem_toArray, List.getElem_cons_succ, List.getElem_cons_zero, List.setIfInBounds_toArray, List.set_cons_zero, List.set_cons_succ])
        refine wpGrA_take (i := 2) (.bool true) rfl (by kernel_rfl) (by kernel_rfl) (fun _ _ _ h => h) (yG_val _ (by rfl) (fun w' _ => by (go_simp; try rfl))) ?_
        (try simp only [Act.put, List.getElem_toArray, List.getElem_cons_succ, List.getElem_cons_zero, List.setIfInBounds_toArray, List.set_cons_zero, List.set_cons_succ])
        refine wpGrA_take (i := 3) (.agg (ptA A11 c11 q.x B11 d11 q.y)) rfl (by kernel_rfl) (by kernel_rfl) (fun _ _ _ h => h) (yG_part (by rfl) TP (.tmp 11) rfl p13 0 rfl TP (ptA A11 c11 q.x B11 d11 q.y) (ptA A11 c11 q.x B11 d11 q.y) (0, 0) _ S99.out.cl.2.1 rfl Try.underlying49 rfl infoP) ?_
        (try simp only [Act.put, List.getElem_toArray, List.getElem_cons_succ, List.getElem_cons_zero, List.setIfInBounds_toArray, List.set_cons_zero, List.set_cons_succ])
        refine wpGrA_take (i := 4) (.bool true) rfl (by kernel_rfl) (by kernel_rfl) (fun _ _ _ h => h) (yG_call (by rfl) (fun w' => by go_simp) (fun w' hb => KO2.out _ _ _ _ w' (S99.out.on hb).sq.2.1 (S99.out.on hb).sq.2.2.1)) ?_
        (try simp only [Act.put, List.getElem_toArray, List.getElem_cons_succ, List.getElem_cons_zero, List.setIfInBounds_toArray, List.set_cons_zero, List.set_cons_succ])
        refine wpGrA_take (i := 5) (.bool true) rfl (by kernel_rfl) (by kernel_rfl) (fun _ _ _ h => h) (yG_val _ (by rfl) (fun w' _ => by (go_simp; try rfl))) ?_
        (try simp only [Act.put, List.getElem_toArray, List.getElem_cons_succ, List.getElem_cons_zero, List.setIfInBounds_toArray, List.set_cons_zero, List.set_cons_succ])
        refine wpGrA_take (i := 6) (.bool true) rfl (by kernel_rfl) (by kernel_rfl) (fun _ _ _ h => h) (yG_val _ (by rfl) (fun w' _ => by (go_simp; try rfl))) ?_
        (try simp only [Act.put, List.getElem_toArray, List.getElem_cons_succ, List.getElem_cons_zero, List.setIfInBounds_toArray, List.set_cons_zero, List.set_cons_succ])
        refine wpGrA_take (i := 7) (.slice A8 ((pB (p.add q)).length) c8) rfl (by kernel_rfl) (by kernel_rfl) (fun _ _ _ h => h) (yG_val _ (by rfl) (fun w' _ => by (go_simp; try rfl))) ?_
        (try simp only [Act.put, List.getElem_toArray, List.getElem_cons_succ, List.getElem_cons_zero, List.setIfInBounds_toArray, List.set_cons_zero, List.set_cons_succ])
        refine wpGrA_take (i := 8) (.agg (ptA A10 c10 p.x B10 d10 p.y)) rfl (by kernel_rfl) (by kernel_rfl) (fun _ _ _ h => h) (yG_part (by rfl) TP (.tmp 10) rfl p12 0 rfl TP (ptA A10 c10 p.x B10 d10 p.y) (ptA A10 c10 p.x B10 d10 p.y) (0, 0) _ S99.out.cl.2.2.1 rfl Try.underlying49 rfl infoP) ?_
        (try simp only [Act.put, List.getElem_toArray, List.getElem_cons_succ, List.getElem_cons_zero, List.setIfInBounds_toArray, List.set_cons_zero, List.set_cons_succ])
        refine wpGrA_take (i := 9) (.agg (ptA A11 c11 q.x B11 d11 q.y)) rfl (by kernel_rfl) (by kernel_rfl) (fun _ _ _ h => h) (yG_part (by rfl) TP (.tmp 11) rfl p13 0 rfl TP (ptA A11 c11 q.x B11 d11 q.y) (ptA A11 c11 q.x B11 d11 q.y) (0, 0) _ S99.out.cl.2.1 rfl Try.underlying49 rfl infoP) ?_
        (try simp only [Act.put, List.getElem_toArray, List.getElem_cons_succ, List.getElem_cons_zero, List.setIfInBounds_toArray, List.set_cons_zero, List.set_cons_succ])
        refine wpGrA_pt (i := 10) (p.add q).x (p.add q).y rfl (by kernel_rfl) (by rfl) (fun w' => by go_simp) (fun w' hb => Add9_any p.x p.y q.x q.y _ _ _ _ _ _ _ _ w' (S99.out.on hb).sq.2.2.2.1 (S99.out.on hb).sq.2.2.2.2.1 (S99.out.on hb).sq.2.1 (S99.out.on hb).sq.2.2.1) ?_
        intro A26 c26 B26 d26 w26 hb hs hs2
        have S26 : Hid (St w w26 [(pp9, ptA A9 c9 nx B10 d10 p.y, TP), (p13, ptA A11 c11 q.x B11 d11 q.y, TP), (p12, ptA A10 c10 p.x B10 d10 p.y, TP), (p4, vy, PT), (p1, vx, PT)] [(A26, c26, ivs (dg (p.add q).x.val)), (B26, d26, ivs (dg (p.add q).y.val)), (A9, c9, ivs (dg nx.val)), (A11, c11, ivs (dg q.x.val)), (B11, d11, ivs (dg q.y.val)), (A10, c10, ivs (dg p.x.val)), (B10, d10, ivs (dg p.y.val)), (A8, c8, bvs (pB (p.add q)))]) := hid (((S99.out.on hb).more hs2).more hs)
        clear hb hs hs2 S99
        (try simp only [Act.put, List.getElem_toArray, List.getElem_cons_succ, List.getElem_cons_zero, List.setIfInBounds_toArray, List.set_cons_zero, List.set_cons_succ])
        refine wpGrA_sq (i := 11) (bvs (pB (p.add q))) 32 rfl (by kernel_rfl) (by rfl) (fun w' => by go_simp) (fun w' hb => Bytes9_any (p.add q).x (p.add q).y _ _ _ _ w' (S26.out.on hb).sq.1 (S26.out.on hb).sq.2.1) ?_
        intro A27 c27 w27 hb hs
        have S27 : Hid (St w w27 [(pp9, ptA A9 c9 nx B10 d10 p.y, TP), (p13, ptA A11 c11 q.x B11 d11 q.y, TP), (p12, ptA A10 c10 p.x B10 d10 p.y, TP), (p4, vy, PT), (p1, vx, PT)] [(A27, c27, bvs (pB (p.add q))), (A26, c26, ivs (dg (p.add q).x.val)), (B26, d26, ivs (dg (p.add q).y.val)), (A9, c9, ivs (dg nx.val)), (A11, c11, ivs (dg q.x.val)), (B11, d11, ivs (dg q.y.val)), (A10, c10, ivs (dg p.x.val)), (B10, d10, ivs (dg p.y.val)), (A8, c8, bvs (pB (p.add q)))]) := hid ((S26.out.on hb).more hs)
        clear hb hs S26
        (try simp only [Act.put, List.getElem_toArray, List.getElem_cons_succ, List.getElem_cons_zero, List.setIfInBounds_toArray, List.set_cons_zero, List.set_cons_succ])
        have KS3 : Hid (∀ A c A' c' W, Sq W W.heap.size A c (bvs (pB (p.add q))) → Sq W W.heap.size A' c' (bvs (pB (p.add q))) → Calls Try.prog 20 #[.slice A ((pB (p.add q)).length) c, .slice A' 32 c'] W fun e w1 => e = .returned (.bool true) ∧ Below W.heap.size W w1) := hid fun A c A' c' W h h2 => by have h3 := same_is A (pB (p.add q)) c ((pB (p.add q)).length) A' (pB (p.add q)) c' 32 W h h2 (by first | rfl | exact pB_length _) (pB_length _) (by rw [pB_length]; omega); rwa [beq_self_eq_true] at h3
        refine wpGrA_take (i := 12) (.bool true) rfl (by kernel_rfl) (by kernel_rfl) (fun _ _ _ h => h) (yG_call (by rfl) (fun w' => by go_simp) (fun w' hb => KS3.out _ _ _ _ w' (S27.out.on hb).sq.2.2.2.2.2.2.2.2.1 (S27.out.on hb).sq.1)) ?_
        (try simp only [Act.put, List.getElem_toArray, List.getElem_cons_succ, List.getElem_cons_zero, List.setIfInBounds_toArray, List.set_cons_zero, List.set_cons_succ])
        refine wpGrA_take (i := 13) (.bool true) rfl (by kernel_rfl) (by kernel_rfl) (fun _ _ _ h => h) (yG_val _ (by rfl) (fun w' _ => by (go_simp; try rfl))) ?_
        (try simp only [Act.put, List.getElem_toArray, List.getElem_cons_succ, List.getElem_cons_zero, List.setIfInBounds_toArray, List.set_cons_zero, List.set_cons_succ])
        refine wpGrA_take (i := 14) (.bool true) rfl (by kernel_rfl) (by kernel_rfl) (fun _ _ _ h => h) (yG_val _ (by rfl) (fun w' _ => by (go_simp; try rfl))) ?_
        (try simp only [Act.put, List.getElem_toArray, List.getElem_cons_succ, List.getElem_cons_zero, List.setIfInBounds_toArray, List.set_cons_zero, List.set_cons_succ])
        refine wpGrA_take (i := 15) (.agg (vx)) rfl (by kernel_rfl) (by kernel_rfl) (fun _ _ _ h => h) (yG_part (by rfl) PT (.tmp 5) rfl p1 0 rfl PT (vx) (vx) (0, 0) _ S27.out.cl.2.2.2.2.1 HVX.out.all Try.underlying28 rfl HVX.out.info) ?_
        (try simp only [Act.put, List.getElem_toArray, List.getElem_cons_succ, List.getElem_cons_zero, List.setIfInBounds_toArray, List.set_cons_zero, List.set_cons_succ])
        obtain ⟨s4, g4, L4⟩ := CvNeg HVX.out
        have G4 := hid g4
        clear g4
        refine wpGrA_take (i := 16) (.agg (s4)) rfl (by kernel_rfl) (by kernel_rfl) (fun _ _ _ h => h) (yG_call (by rfl) (fun w' => by go_simp) (fun w' hb => L4.out w')) ?_
        (try simp only [Act.put, List.getElem_toArray, List.getElem_cons_succ, List.getElem_cons_zero, List.setIfInBounds_toArray, List.set_cons_zero, List.set_cons_succ])
        refine wpGrA_take (i := 18) (.agg (ptA A9 c9 nx B10 d10 p.y)) rfl (by kernel_rfl) (by kernel_rfl) (fun _ _ _ h => h) (yG_part (by rfl) TP (.tmp 12) rfl pp9 0 rfl TP (ptA A9 c9 nx B10 d10 p.y) (ptA A9 c9 nx B10 d10 p.y) (0, 0) _ S27.out.cl.1 rfl Try.underlying49 rfl infoP) ?_
        (try simp only [Act.put, List.getElem_toArray, List.getElem_cons_succ, List.getElem_cons_zero, List.setIfInBounds_toArray, List.set_cons_zero, List.set_cons_succ])
        have L5 := CvBytes G4.out
        refine wpGrA_bytes (i := 17) (pB p.neg) rfl (by kernel_rfl) (by rfl) (fun w' => by go_simp) (fun w' hb => L5.out w') ?_
        intro A28 c28 w28 hb hs
        have S28 : Hid (St w w28 [(pp9, ptA A9 c9 nx B10 d10 p.y, TP), (p13, ptA A11 c11 q.x B11 d11 q.y, TP), (p12, ptA A10 c10 p.x B10 d10 p.y, TP), (p4, vy, PT), (p1, vx, PT)] [(A28, c28, bvs (pB p.neg)), (A27, c27, bvs (pB (p.add q))), (A26, c26, ivs (dg (p.add q).x.val)), (B26, d26, ivs (dg (p.add q).y.val)), (A9, c9, ivs (dg nx.val)), (A11, c11, ivs (dg q.x.val)), (B11, d11, ivs (dg q.y.val)), (A10, c10, ivs (dg p.x.val)), (B10, d10, ivs (dg p.y.val)), (A8, c8, bvs (pB (p.add q)))]) := hid ((S27.out.on hb).more hs)
        clear hb hs S27
        (try simp only [Act.put, List.getElem_toArray, List.getElem_cons_succ, List.getElem_cons_zero, List.setIfInBounds_toArray, List.set_cons_zero, List.set_cons_succ])
        have KDB : Hid (∀ A c A2 c2 W, Sq W W.heap.size A c (ivs (dg nx.val)) → Sq W W.heap.size A2 c2 (ivs (dg p.y.val)) → Calls Try.prog 27 #[.agg (ptA A c nx A2 c2 p.y)] W fun e w1 => ∃ A3 c3, e = .returned (.slice A3 32 c3) ∧ Sq w1 w1.heap.size A3 c3 (bvs (pB p.neg)) ∧ Below W.heap.size W w1) := hid fun A c A2 c2 W h h2 => by rw [← HNB.out]; exact Bytes9_any nx p.y A c A2 c2 W h h2
        refine wpGrA_sq (i := 19) (bvs (pB p.neg)) 32 rfl (by kernel_rfl) (by rfl) (fun w' => by go_simp) (fun w' hb => KDB.out _ _ _ _ w' (S28.out.on hb).sq.2.2.2.2.1 (S28.out.on hb).sq.2.2.2.2.2.2.2.2.1) ?_
        intro A29 c29 w29 hb hs
        have S29 : Hid (St w w29 [(pp9, ptA A9 c9 nx B10 d10 p.y, TP), (p13, ptA A11 c11 q.x B11 d11 q.y, TP), (p12, ptA A10 c10 p.x B10 d10 p.y, TP), (p4, vy, PT), (p1, vx, PT)] [(A29, c29, bvs (pB p.neg)), (A28, c28, bvs (pB p.neg)), (A27, c27, bvs (pB (p.add q))), (A26, c26, ivs (dg (p.add q).x.val)), (B26, d26, ivs (dg (p.add q).y.val)), (A9, c9, ivs (dg nx.val)), (A11, c11, ivs (dg q.x.val)), (B11, d11, ivs (dg q.y.val)), (A10, c10, ivs (dg p.x.val)), (B10, d10, ivs (dg p.y.val)), (A8, c8, bvs (pB (p.add q)))]) := hid ((S28.out.on hb).more hs)
        clear hb hs S28
        (try simp only [Act.put, List.getElem_toArray, List.getElem_cons_succ, List.getElem_cons_zero, List.setIfInBounds_toArray, List.set_cons_zero, List.set_cons_succ])
        have KS6 : Hid (∀ A c A' c' W, Sq W W.heap.size A c (bvs (pB p.neg)) → Sq W W.heap.size A' c' (bvs (pB p.neg)) → Calls Try.prog 20 #[.slice A ((pB p.neg).length) c, .slice A' 32 c'] W fun e w1 => e = .returned (.bool true) ∧ Below W.heap.size W w1) := hid fun A c A' c' W h h2 => by have h3 := same_is A (pB p.neg) c ((pB p.neg).length) A' (pB p.neg) c' 32 W h h2 (by first | rfl | exact pB_length _) (pB_length _) (by rw [pB_length]; omega); rwa [beq_self_eq_true] at h3
        refine wpGrA_take (i := 20) (.bool true) rfl (by kernel_rfl) (by kernel_rfl) (fun _ _ _ h => h) (yG_call (by rfl) (fun w' => by go_simp) (fun w' hb => KS6.out _ _ _ _ w' (S29.out.on hb).sq.2.1 (S29.out.on hb).sq.1)) ?_
        (try simp only [Act.put, List.getElem_toArray, List.getElem_cons_succ, List.getElem_cons_zero, List.setIfInBounds_toArray, List.set_cons_zero, List.set_cons_succ])
        refine wpGrA_take (i := 21) (.bool true) rfl (by kernel_rfl) (by kernel_rfl) (fun _ _ _ h => h) (yG_val _ (by rfl) (fun w' _ => by (go_simp; try rfl))) ?_
        (try simp only [Act.put, List.getElem_toArray, List.getElem_cons_succ, List.getElem_cons_zero, List.setIfInBounds_toArray, List.set_cons_zero, List.set_cons_succ])
        refine wpGrA_take (i := 22) (.bool true) rfl (by kernel_rfl) (by kernel_rfl) (fun _ _ _ h => h) (yG_val _ (by rfl) (fun w' _ => by (go_simp; try rfl))) ?_
        (try simp only [Act.put, List.getElem_toArray, List.getElem_cons_succ, List.getElem_cons_zero, List.setIfInBounds_toArray, List.set_cons_zero, List.set_cons_succ])
        refine wpGrA_take (i := 26) (.slice A 32 c) rfl (by kernel_rfl) (by kernel_rfl) (fun _ _ _ h => h) (yG_val _ (by rfl) (fun w' _ => by (go_simp; try rfl))) ?_
        (try simp only [Act.put, List.getElem_toArray, List.getElem_cons_succ, List.getElem_cons_zero, List.setIfInBounds_toArray, List.set_cons_zero, List.set_cons_succ])
        refine wpGrA_take (i := 27) (.slice A' 32 c') rfl (by kernel_rfl) (by kernel_rfl) (fun _ _ _ h => h) (yG_val _ (by rfl) (fun w' _ => by (go_simp; try rfl))) ?_
        (try simp only [Act.put, List.getElem_toArray, List.getElem_cons_succ, List.getElem_cons_zero, List.setIfInBounds_toArray, List.set_cons_zero, List.set_cons_succ])
        refine wpGrA_take (i := 23) (.agg (vx)) rfl (by kernel_rfl) (by kernel_rfl) (fun _ _ _ h => h) (yG_part (by rfl) PT (.tmp 5) rfl p1 0 rfl PT (vx) (vx) (0, 0) _ S29.out.cl.2.2.2.2.1 HVX.out.all Try.underlying28 rfl HVX.out.info) ?_
        (try simp only [Act.put, List.getElem_toArray, List.getElem_cons_succ, List.getElem_cons_zero, List.setIfInBounds_toArray, List.set_cons_zero, List.set_cons_succ])
        refine wpGrA_take (i := 24) (.agg (vy)) rfl (by kernel_rfl) (by kernel_rfl) (fun _ _ _ h => h) (yG_part (by rfl) PT (.tmp 7) rfl p4 0 rfl PT (vy) (vy) (0, 0) _ S29.out.cl.2.2.2.1 HVY.out.all Try.underlying28 rfl HVY.out.info) ?_
        (try simp only [Act.put, List.getElem_toArray, List.getElem_cons_succ, List.getElem_cons_zero, List.setIfInBounds_toArray, List.set_cons_zero, List.set_cons_succ])
        have KCS : Hid (∀ W, Calls Try.prog 9 #[.agg vx, .agg vy] W fun e w1 => e = .returned (.bool sb) ∧ Below W.heap.size W w1) := by have h := CvSame HVX.out HVY.out; rw [HSM.out] at h; exact h
        refine wpGrA_take (i := 25) (.bool sb) rfl (by kernel_rfl) (by kernel_rfl) (fun _ _ _ h => h) (yG_call (by rfl) (fun w' => by go_simp) (fun w' hb => KCS.out w')) ?_
        (try simp only [Act.put, List.getElem_toArray, List.getElem_cons_succ, List.getElem_cons_zero, List.setIfInBounds_toArray, List.set_cons_zero, List.set_cons_succ])
        have KSB : Hid (∀ W, Sq W W.heap.size A c (bvs xs) → Sq W W.heap.size A' c' (bvs ys) → Calls Try.prog 20 #[.slice A 32 c, .slice A' 32 c'] W fun e w1 => e = .returned (.bool sb) ∧ Below W.heap.size W w1) := hid fun W h h2 => by rw [HSB.out]; exact same_is A xs c 32 A' ys c' 32 W h h2 HXL.out HYL.out (by omega)
        refine wpGrA_take (i := 28) (.bool sb) rfl (by kernel_rfl) (by kernel_rfl) (fun _ _ _ h => h) (yG_call (by rfl) (fun w' => by go_simp) (fun w' hb => KSB.out w' (HS.out.on6 ((S29.out.on hb).below)) (HS'.out.on6 ((S29.out.on hb).below)))) ?_
        (try simp only [Act.put, List.getElem_toArray, List.getElem_cons_succ, List.getElem_cons_zero, List.setIfInBounds_toArray, List.set_cons_zero, List.set_cons_succ])
        refine wpGrA_end (by kernel_rfl) ?_
        intro w30 hb
        have S30 := hid (S29.out.on hb)
        clear hb S29
        refine wpLA_here ?_
        refine wpLA_take (.bool true) (yG_val _ (by rfl) (fun w' _ => by (go_simp; try (cases sb <;> rfl)))) ?_
        (try simp only [Act.put, List.getElem_toArray, List.getElem_cons_succ, List.getElem_cons_zero, List.setIfInBounds_toArray, List.set_cons_zero, List.set_cons_succ])
        refine wpLA_take (.bool true) (yG_val _ (by rfl) (fun w' _ => by (go_simp; try rfl))) ?_
        (try simp only [Act.put, List.getElem_toArray, List.getElem_cons_succ, List.getElem_cons_zero, List.setIfInBounds_toArray, List.set_cons_zero, List.set_cons_succ])
        refine wpLA_take (.bool true) (yG_val _ (by rfl) (fun w' _ => by (go_simp; try rfl))) ?_
        (try simp only [Act.put, List.getElem_toArray, List.getElem_cons_succ, List.getElem_cons_zero, List.setIfInBounds_toArray, List.set_cons_zero, List.set_cons_succ])
        refine wpLA_end ?_
        intro w31 hb
        have S31 := hid (S30.out.on hb)
        clear hb S30
        go_wp2_with fail
        go_ret
        exact ⟨rfl, S31.out.below⟩
end Go.Proofs.Ytealegfmmeklcaa
