/-
  Texts of this claim in one file: Law10c.
-/
import Derived.Test.YtpdgedeghjfaaaaGreatDoorPk24
import Derived.Test.YtpdgedeghjfaaaaGreatDoorPk25
import Derived.Test.YtpdgedeghjfaaaaGreatDoorPk11
section
namespace Go.Proofs.YtpdgedeghjfaaaaGreatDoor
open Go Go.RowKit
set_option linter.unusedVariables false
set_option linter.unusedSimpArgs false
set_option maxRecDepth 100000 in
set_option maxHeartbeats 4000000 in
theorem holds_other (A : Option Addr) (xs : List UInt8) (c : Nat) (A' : Option Addr) (ys : List UInt8) (c' : Nat) (A'' : Option Addr) (zs : List UInt8) (c'' : Nat) (w : World) (hG : GlobL w) (hS : Sq w w.heap.size A c (bvs xs)) (hS' : Sq w w.heap.size A' c' (bvs ys)) (hS'' : Sq w w.heap.size A'' c'' (bvs zs)) (hx : xs.length ≤ 60) (hy : ys.length ≤ 200) (hz : zs.length ≤ 100) (h64 : zs.length ≠ 64) :
    Calls Tryz.prog 3 #[.slice A xs.length c, .slice A' ys.length c', .slice A'' zs.length c''] w fun e w' => e = .returned (.bool true) ∧ Below w.heap.size w w' := by
  have HS := hid hS; have HS' := hid hS'; have HS'' := hid hS''; have HG := hid hG
  have KH : Hid (∀ (A : Option Addr) (c : Nat) (A2 : Option Addr) (c2 : Nat) (A3 : Option Addr) (c3 : Nat) (W : World), GlobL W → Sq W W.heap.size A c (bvs xs) → Sq W W.heap.size A2 c2 (bvs ys) → Sq W W.heap.size A3 c3 (bvs zs) → Calls Tryz.prog 5 #[.slice A xs.length c, .slice A2 ys.length c2, .slice A3 zs.length c3] W fun e w' => e = .returned (.bool false) ∧ Below W.heap.size W w') := hid fun A c A2 c2 A3 c3 W hG h h' h'' => by
    have := SgHolds A xs c A2 ys c2 A3 zs c3 W hG h h' h'' (by omega) (by omega) (by omega)
    rw [holds_len h64] at this; exact this
  have HX := hid (show ¬ (60 : Int) < (xs.length : Int) by omega)
  have HY := hid (show ¬ (200 : Int) < (ys.length : Int) by omega)
  have HZ := hid (show ¬ (100 : Int) < (zs.length : Int) by omega)
  have H64 := hid (show ¬ (zs.length : Int) = 64 by omega)
  clear hG hS hS' hS'' hx hy hz h64
  go_enter Tryz.func3, Tryz.ntmps3
  have S0 : Hid (St w w [] []) := hid (St.start w)
  go_upto_region 0 with fail
  refine wpLA_start ?_
  refine wpLA_take (.bool false) (yG_val _ (by rfl) (fun w' _ => by (go_simp; try rfl))) ?_
  (try simp only [Act.put, List.getElem_toArray, List.getElem_cons_succ, List.getElem_cons_zero, List.setIfInBounds_toArray, List.set_cons_zero, List.set_cons_succ])
  refine wpLA_end ?_
  intro w1 hb
  have S1 := hid (S0.out.on hb)
  clear hb S0
  go_upto_region 1 with fail
  refine wpLA_start ?_
  refine wpLA_take (.bool true) (yG_call (by rfl) (fun w' => by go_simp) (fun w' hb => alive10_any w' (HG.out.below (S1.out.on hb).below (Nat.le_refl _)))) ?_
  (try simp only [Act.put, List.getElem_toArray, List.getElem_cons_succ, List.getElem_cons_zero, List.setIfInBounds_toArray, List.set_cons_zero, List.set_cons_succ])
  refine wpLA_take (.bool false) (yG_val _ (by rfl) (fun w' _ => by (go_simp; try rfl))) ?_
  (try simp only [Act.put, List.getElem_toArray, List.getElem_cons_succ, List.getElem_cons_zero, List.setIfInBounds_toArray, List.set_cons_zero, List.set_cons_succ])
  refine wpLA_end ?_
  intro w2 hb
  have S2 := hid (S1.out.on hb)
  clear hb S1
  go_upto_region 3 with fail
  refine wpLA_start ?_
  refine wpLA_take (.slice A (xs.length) c) (yG_val _ (by rfl) (fun w' _ => by (go_simp; try rfl))) ?_
  (try simp only [Act.put, List.getElem_toArray, List.getElem_cons_succ, List.getElem_cons_zero, List.setIfInBounds_toArray, List.set_cons_zero, List.set_cons_succ])
  refine wpLA_take (.int .i64 ((xs.length : Nat))) (yG_val _ (by rfl) (fun w' _ => by (go_simp; try rfl))) ?_
  (try simp only [Act.put, List.getElem_toArray, List.getElem_cons_succ, List.getElem_cons_zero, List.setIfInBounds_toArray, List.set_cons_zero, List.set_cons_succ])
  refine wpLA_take (.bool false) (yG_val _ (by rfl) (fun w' _ => by (have h := HX.out; go_simp; try omega))) ?_
  (try simp only [Act.put, List.getElem_toArray, List.getElem_cons_succ, List.getElem_cons_zero, List.setIfInBounds_toArray, List.set_cons_zero, List.set_cons_succ])
  refine wpLA_take (.bool false) (yG_val _ (by rfl) (fun w' _ => by (go_simp; try rfl))) ?_
  (try simp only [Act.put, List.getElem_toArray, List.getElem_cons_succ, List.getElem_cons_zero, List.setIfInBounds_toArray, List.set_cons_zero, List.set_cons_succ])
  refine wpLA_take (.slice A' (ys.length) c') (yG_val _ (by rfl) (fun w' _ => by (go_simp; try rfl))) ?_
  (try simp only [Act.put, List.getElem_toArray, List.getElem_cons_succ, List.getElem_cons_zero, List.setIfInBounds_toArray, List.set_cons_zero, List.set_cons_succ])
  refine wpLA_take (.int .i64 ((ys.length : Nat))) (yG_val _ (by rfl) (fun w' _ => by (go_simp; try rfl))) ?_
  (try simp only [Act.put, List.getElem_toArray, List.getElem_cons_succ, List.getElem_cons_zero, List.setIfInBounds_toArray, List.set_cons_zero, List.set_cons_succ])
  refine wpLA_take (.bool false) (yG_val _ (by rfl) (fun w' _ => by (have h := HY.out; go_simp; try omega))) ?_
  (try simp only [Act.put, List.getElem_toArray, List.getElem_cons_succ, List.getElem_cons_zero, List.setIfInBounds_toArray, List.set_cons_zero, List.set_cons_succ])
  refine wpLA_take (.bool false) (yG_val _ (by rfl) (fun w' _ => by (go_simp; try rfl))) ?_
  (try simp only [Act.put, List.getElem_toArray, List.getElem_cons_succ, List.getElem_cons_zero, List.setIfInBounds_toArray, List.set_cons_zero, List.set_cons_succ])
  refine wpLA_take (.bool false) (yG_val _ (by rfl) (fun w' _ => by (go_simp; try rfl))) ?_
  (try simp only [Act.put, List.getElem_toArray, List.getElem_cons_succ, List.getElem_cons_zero, List.setIfInBounds_toArray, List.set_cons_zero, List.set_cons_succ])
  refine wpLA_take (.slice A'' (zs.length) c'') (yG_val _ (by rfl) (fun w' _ => by (go_simp; try rfl))) ?_
  (try simp only [Act.put, List.getElem_toArray, List.getElem_cons_succ, List.getElem_cons_zero, List.setIfInBounds_toArray, List.set_cons_zero, List.set_cons_succ])
  refine wpLA_take (.int .i64 ((zs.length : Nat))) (yG_val _ (by rfl) (fun w' _ => by (go_simp; try rfl))) ?_
  (try simp only [Act.put, List.getElem_toArray, List.getElem_cons_succ, List.getElem_cons_zero, List.setIfInBounds_toArray, List.set_cons_zero, List.set_cons_succ])
  refine wpLA_take (.bool false) (yG_val _ (by rfl) (fun w' _ => by (have h := HZ.out; go_simp; try omega))) ?_
  (try simp only [Act.put, List.getElem_toArray, List.getElem_cons_succ, List.getElem_cons_zero, List.setIfInBounds_toArray, List.set_cons_zero, List.set_cons_succ])
  refine wpLA_take (.bool false) (yG_val _ (by rfl) (fun w' _ => by (go_simp; try rfl))) ?_
  (try simp only [Act.put, List.getElem_toArray, List.getElem_cons_succ, List.getElem_cons_zero, List.setIfInBounds_toArray, List.set_cons_zero, List.set_cons_succ])
  refine wpLA_end ?_
  intro w3 hb
  have S3 := hid (S2.out.on hb)
  clear hb S2
  go_upto_region 5 with fail
  refine wpLA_start ?_
  refine wpLA_take (.slice A (xs.length) c) (yG_val _ (by rfl) (fun w' _ => by (go_simp; try rfl))) ?_
  (try simp only [Act.put, List.getElem_toArray, List.getElem_cons_succ, List.getElem_cons_zero, List.setIfInBounds_toArray, List.set_cons_zero, List.set_cons_succ])
  refine wpLA_take (.slice A' (ys.length) c') (yG_val _ (by rfl) (fun w' _ => by (go_simp; try rfl))) ?_
  (try simp only [Act.put, List.getElem_toArray, List.getElem_cons_succ, List.getElem_cons_zero, List.setIfInBounds_toArray, List.set_cons_zero, List.set_cons_succ])
  refine wpLA_take (.slice A'' (zs.length) c'') (yG_val _ (by rfl) (fun w' _ => by (go_simp; try rfl))) ?_
  (try simp only [Act.put, List.getElem_toArray, List.getElem_cons_succ, List.getElem_cons_zero, List.setIfInBounds_toArray, List.set_cons_zero, List.set_cons_succ])
  refine wpLA_take (.bool false) (yG_call (by rfl) (fun w' => by go_simp) (fun w' hb => KH.out _ _ _ _ _ _ w' (HG.out.below (S3.out.on hb).below (Nat.le_refl _)) (HS.out.on6 ((S3.out.on hb).below)) (HS'.out.on6 ((S3.out.on hb).below)) (HS''.out.on6 ((S3.out.on hb).below)))) ?_
  (try simp only [Act.put, List.getElem_toArray, List.getElem_cons_succ, List.getElem_cons_zero, List.setIfInBounds_toArray, List.set_cons_zero, List.set_cons_succ])
  refine wpLA_take (.bool false) (yG_val _ (by rfl) (fun w' _ => by (go_simp; try rfl))) ?_
  (try simp only [Act.put, List.getElem_toArray, List.getElem_cons_succ, List.getElem_cons_zero, List.setIfInBounds_toArray, List.set_cons_zero, List.set_cons_succ])
  refine wpLA_end ?_
  intro w4 hb
  have S4 := hid (S3.out.on hb)
  clear hb S3
  go_upto_region 6 with fail
  refine wpLA_start ?_
  refine wpLA_take (.slice A'' (zs.length) c'') (yG_val _ (by rfl) (fun w' _ => by (go_simp; try rfl))) ?_
  (try simp only [Act.put, List.getElem_toArray, List.getElem_cons_succ, List.getElem_cons_zero, List.setIfInBounds_toArray, List.set_cons_zero, List.set_cons_succ])
  refine wpLA_take (.int .i64 ((zs.length : Nat))) (yG_val _ (by rfl) (fun w' _ => by (go_simp; try rfl))) ?_
  (try simp only [Act.put, List.getElem_toArray, List.getElem_cons_succ, List.getElem_cons_zero, List.setIfInBounds_toArray, List.set_cons_zero, List.set_cons_succ])
  refine wpLA_take (.bool true) (yG_val _ (by rfl) (fun w' _ => by (have h := H64.out; go_simp; try omega))) ?_
  (try simp only [Act.put, List.getElem_toArray, List.getElem_cons_succ, List.getElem_cons_zero, List.setIfInBounds_toArray, List.set_cons_zero, List.set_cons_succ])
  refine wpLA_end ?_
  intro w5 hb
  have S5 := hid (S4.out.on hb)
  clear hb S4
  go_upto_region 7 with fail
  refine wpLA_start ?_
  refine wpLA_take (.bool false) (yG_val _ (by rfl) (fun w' _ => by (go_simp; try rfl))) ?_
  (try simp only [Act.put, List.getElem_toArray, List.getElem_cons_succ, List.getElem_cons_zero, List.setIfInBounds_toArray, List.set_cons_zero, List.set_cons_succ])
  refine wpLA_take (.bool true) (yG_val _ (by rfl) (fun w' _ => by (go_simp; try rfl))) ?_
  (try simp only [Act.put, List.getElem_toArray, List.getElem_cons_succ, List.getElem_cons_zero, List.setIfInBounds_toArray, List.set_cons_zero, List.set_cons_succ])
  refine wpLA_take (.bool true) (yG_val _ (by rfl) (fun w' _ => by (go_simp; try rfl))) ?_
  (try simp only [Act.put, List.getElem_toArray, List.getElem_cons_succ, List.getElem_cons_zero, List.setIfInBounds_toArray, List.set_cons_zero, List.set_cons_succ])
  refine wpLA_end ?_
  intro w6 hb
  have S6 := hid (S5.out.on hb)
  clear hb S5
  go_wp2_with fail
  go_ret
  exact ⟨rfl, S6.out.below⟩
set_option maxRecDepth 100000 in
set_option maxHeartbeats 4000000 in
theorem holds_r (A : Option Addr) (xs : List UInt8) (c : Nat) (A' : Option Addr) (ys : List UInt8) (c' : Nat) (A'' : Option Addr) (zs : List UInt8) (c'' : Nat) (w : World) (hG : GlobL w) (hS : Sq w w.heap.size A c (bvs xs)) (hS' : Sq w w.heap.size A' c' (bvs ys)) (hS'' : Sq w w.heap.size A'' c'' (bvs zs)) (hx : xs.length ≤ 60) (hy : ys.length ≤ 200) (h64 : zs.length = 64) (hr : ptOf (zs.take 32) = none) :
    Calls Tryz.prog 3 #[.slice A xs.length c, .slice A' ys.length c', .slice A'' 64 c''] w fun e w' => e = .returned (.bool true) ∧ Below w.heap.size w w' := by
  obtain ⟨b0, o0, rfl, -⟩ := hS''.form (by rw [bvs_length]; omega)
  have HS := hid hS; have HS' := hid hS'; have HS'' := hid hS''; have HG := hid hG; have LZS := hid h64
  have l32 : (zs.take 32).length = 32 := by rw [List.length_take, h64]; rfl
  have d32 : (zs.drop 32).length = 32 := by rw [List.length_drop, h64]
  obtain ⟨vr, hvr, hkr⟩ := CvOf (zs.take 32) (by omega)
  obtain ⟨va, hva, KA⟩ := CvOf xs (by omega)
  rw [l32] at hkr
  have KR := hkr
  have HVR := hid hvr; have HVA := hid hva
  obtain ⟨n0, hn0⟩ : ∃ n, n = leN (zs.drop 32) := ⟨_, rfl⟩
  have KO6 : Hid (∀ (A : Option Addr) (c : Nat) (W : World), Sq W W.heap.size A c (bvs (zs.drop 32)) → Calls Tryz.prog 7 #[.slice A 32 c] W (BigR W n0)) := hid fun A c W h => by
    have := Of6_any A (zs.drop 32) c W h (by omega)
    rw [d32, ← hn0] at this; exact this
  have hn0l : n0 < 256 ^ 32 := by have := leN_lt (zs.drop 32); rw [d32, ← hn0] at this; exact this
  have hdl : (dg n0).length ≤ 1099511627776 := by have := (dg_length_le n0 40).2 (Nat.lt_trans hn0l (by decide +kernel)); omega
  have KLE0 := fun A c A2 c2 (W : World) (h : Sq W W.heap.size A c (ivs (dg n0))) (h' : Sq W W.heap.size A2 c2 (ivs (dg ordL))) => calls_drew (Less_any n0 ordL A A2 c c2 _ _ W h h' hdl)
  rw [hr] at KR
  simp only [Option.isSome_none] at KR
  obtain ⟨q, hq⟩ : ∃ q, q = (ptOf xs).isSome := ⟨_, rfl⟩
  rw [← hq] at KA
  clear hq
  have hf : holdsB xs ys zs = false := by unfold holdsB; rw [hr]; simp
  have KH : Hid (∀ (A : Option Addr) (c : Nat) (A2 : Option Addr) (c2 : Nat) (A3 : Option Addr) (c3 : Nat) (W : World), GlobL W → Sq W W.heap.size A c (bvs xs) → Sq W W.heap.size A2 c2 (bvs ys) → Sq W W.heap.size A3 c3 (bvs zs) → Calls Tryz.prog 5 #[.slice A xs.length c, .slice A2 ys.length c2, .slice A3 64 c3] W fun e w' => e = .returned (.bool false) ∧ Below W.heap.size W w') := hid fun A c A2 c2 A3 c3 W hG h h' h'' => by
    have := SgHolds A xs c A2 ys c2 A3 zs c3 W hG h h' h'' (by omega) (by omega) (by omega)
    rw [hf, h64] at this; exact this
  have HX := hid (show ¬ (60 : Int) < (xs.length : Int) by omega)
  have HY := hid (show ¬ (200 : Int) < (ys.length : Int) by omega)
  clear hG hS hS' hS'' hx hy h64 l32 d32 hvr hva hkr hn0 hn0l hdl KLE0 hf hr
  go_enter Tryz.func3, Tryz.ntmps3
  have S0 : Hid (St w w [] []) := hid (St.start w)
  go_upto_region 0 with fail
  refine wpLA_start ?_
  refine wpLA_take (.bool false) (yG_val _ (by rfl) (fun w' _ => by (go_simp; try rfl))) ?_
  (try simp only [Act.put, List.getElem_toArray, List.getElem_cons_succ, List.getElem_cons_zero, List.setIfInBounds_toArray, List.set_cons_zero, List.set_cons_succ])
  refine wpLA_end ?_
  intro w1 hb
  have S1 := hid (S0.out.on hb)
  clear hb S0
  go_upto_region 1 with fail
  refine wpLA_start ?_
  refine wpLA_take (.bool true) (yG_call (by rfl) (fun w' => by go_simp) (fun w' hb => alive10_any w' (HG.out.below (S1.out.on hb).below (Nat.le_refl _)))) ?_
  (try simp only [Act.put, List.getElem_toArray, List.getElem_cons_succ, List.getElem_cons_zero, List.setIfInBounds_toArray, List.set_cons_zero, List.set_cons_succ])
  refine wpLA_take (.bool false) (yG_val _ (by rfl) (fun w' _ => by (go_simp; try rfl))) ?_
  (try simp only [Act.put, List.getElem_toArray, List.getElem_cons_succ, List.getElem_cons_zero, List.setIfInBounds_toArray, List.set_cons_zero, List.set_cons_succ])
  refine wpLA_end ?_
  intro w2 hb
  have S2 := hid (S1.out.on hb)
  clear hb S1
  go_upto_region 3 with fail
  refine wpLA_start ?_
  refine wpLA_take (.slice A (xs.length) c) (yG_val _ (by rfl) (fun w' _ => by (go_simp; try rfl))) ?_
  (try simp only [Act.put, List.getElem_toArray, List.getElem_cons_succ, List.getElem_cons_zero, List.setIfInBounds_toArray, List.set_cons_zero, List.set_cons_succ])
  refine wpLA_take (.int .i64 ((xs.length : Nat))) (yG_val _ (by rfl) (fun w' _ => by (go_simp; try rfl))) ?_
  (try simp only [Act.put, List.getElem_toArray, List.getElem_cons_succ, List.getElem_cons_zero, List.setIfInBounds_toArray, List.set_cons_zero, List.set_cons_succ])
  refine wpLA_take (.bool false) (yG_val _ (by rfl) (fun w' _ => by (have h := HX.out; go_simp; try omega))) ?_
  (try simp only [Act.put, List.getElem_toArray, List.getElem_cons_succ, List.getElem_cons_zero, List.setIfInBounds_toArray, List.set_cons_zero, List.set_cons_succ])
  refine wpLA_take (.bool false) (yG_val _ (by rfl) (fun w' _ => by (go_simp; try rfl))) ?_
  (try simp only [Act.put, List.getElem_toArray, List.getElem_cons_succ, List.getElem_cons_zero, List.setIfInBounds_toArray, List.set_cons_zero, List.set_cons_succ])
  refine wpLA_take (.slice A' (ys.length) c') (yG_val _ (by rfl) (fun w' _ => by (go_simp; try rfl))) ?_
  (try simp only [Act.put, List.getElem_toArray, List.getElem_cons_succ, List.getElem_cons_zero, List.setIfInBounds_toArray, List.set_cons_zero, List.set_cons_succ])
  refine wpLA_take (.int .i64 ((ys.length : Nat))) (yG_val _ (by rfl) (fun w' _ => by (go_simp; try rfl))) ?_
  (try simp only [Act.put, List.getElem_toArray, List.getElem_cons_succ, List.getElem_cons_zero, List.setIfInBounds_toArray, List.set_cons_zero, List.set_cons_succ])
  refine wpLA_take (.bool false) (yG_val _ (by rfl) (fun w' _ => by (have h := HY.out; go_simp; try omega))) ?_
  (try simp only [Act.put, List.getElem_toArray, List.getElem_cons_succ, List.getElem_cons_zero, List.setIfInBounds_toArray, List.set_cons_zero, List.set_cons_succ])
  refine wpLA_take (.bool false) (yG_val _ (by rfl) (fun w' _ => by (go_simp; try rfl))) ?_
  (try simp only [Act.put, List.getElem_toArray, List.getElem_cons_succ, List.getElem_cons_zero, List.setIfInBounds_toArray, List.set_cons_zero, List.set_cons_succ])
  refine wpLA_take (.bool false) (yG_val _ (by rfl) (fun w' _ => by (go_simp; try rfl))) ?_
  (try simp only [Act.put, List.getElem_toArray, List.getElem_cons_succ, List.getElem_cons_zero, List.setIfInBounds_toArray, List.set_cons_zero, List.set_cons_succ])
  refine wpLA_take (.slice (some ⟨b0, o0, none⟩) 64 c'') (yG_val _ (by rfl) (fun w' _ => by (go_simp; try rfl))) ?_
  (try simp only [Act.put, List.getElem_toArray, List.getElem_cons_succ, List.getElem_cons_zero, List.setIfInBounds_toArray, List.set_cons_zero, List.set_cons_succ])
  refine wpLA_take (.int .i64 64) (yG_val _ (by rfl) (fun w' _ => by (go_simp; try rfl))) ?_
  (try simp only [Act.put, List.getElem_toArray, List.getElem_cons_succ, List.getElem_cons_zero, List.setIfInBounds_toArray, List.set_cons_zero, List.set_cons_succ])
  refine wpLA_take (.bool false) (yG_val _ (by rfl) (fun w' _ => by (go_simp; try rfl))) ?_
  (try simp only [Act.put, List.getElem_toArray, List.getElem_cons_succ, List.getElem_cons_zero, List.setIfInBounds_toArray, List.set_cons_zero, List.set_cons_succ])
  refine wpLA_take (.bool false) (yG_val _ (by rfl) (fun w' _ => by (go_simp; try rfl))) ?_
  (try simp only [Act.put, List.getElem_toArray, List.getElem_cons_succ, List.getElem_cons_zero, List.setIfInBounds_toArray, List.set_cons_zero, List.set_cons_succ])
  refine wpLA_end ?_
  intro w3 hb
  have S3 := hid (S2.out.on hb)
  clear hb S2
  go_upto_region 5 with fail
  refine wpLA_start ?_
  refine wpLA_take (.slice A (xs.length) c) (yG_val _ (by rfl) (fun w' _ => by (go_simp; try rfl))) ?_
  (try simp only [Act.put, List.getElem_toArray, List.getElem_cons_succ, List.getElem_cons_zero, List.setIfInBounds_toArray, List.set_cons_zero, List.set_cons_succ])
  refine wpLA_take (.slice A' (ys.length) c') (yG_val _ (by rfl) (fun w' _ => by (go_simp; try rfl))) ?_
  (try simp only [Act.put, List.getElem_toArray, List.getElem_cons_succ, List.getElem_cons_zero, List.setIfInBounds_toArray, List.set_cons_zero, List.set_cons_succ])
  refine wpLA_take (.slice (some ⟨b0, o0, none⟩) 64 c'') (yG_val _ (by rfl) (fun w' _ => by (go_simp; try rfl))) ?_
  (try simp only [Act.put, List.getElem_toArray, List.getElem_cons_succ, List.getElem_cons_zero, List.setIfInBounds_toArray, List.set_cons_zero, List.set_cons_succ])
  refine wpLA_take (.bool false) (yG_call (by rfl) (fun w' => by go_simp) (fun w' hb => KH.out _ _ _ _ _ _ w' (HG.out.below (S3.out.on hb).below (Nat.le_refl _)) (HS.out.on6 ((S3.out.on hb).below)) (HS'.out.on6 ((S3.out.on hb).below)) (HS''.out.on6 ((S3.out.on hb).below)))) ?_
  (try simp only [Act.put, List.getElem_toArray, List.getElem_cons_succ, List.getElem_cons_zero, List.setIfInBounds_toArray, List.set_cons_zero, List.set_cons_succ])
  refine wpLA_take (.bool false) (yG_val _ (by rfl) (fun w' _ => by (go_simp; try rfl))) ?_
  (try simp only [Act.put, List.getElem_toArray, List.getElem_cons_succ, List.getElem_cons_zero, List.setIfInBounds_toArray, List.set_cons_zero, List.set_cons_succ])
  refine wpLA_end ?_
  intro w4 hb
  have S4 := hid (S3.out.on hb)
  clear hb S3
  go_upto_region 6 with fail
  refine wpLA_start ?_
  refine wpLA_take (.slice (some ⟨b0, o0, none⟩) 64 c'') (yG_val _ (by rfl) (fun w' _ => by (go_simp; try rfl))) ?_
  (try simp only [Act.put, List.getElem_toArray, List.getElem_cons_succ, List.getElem_cons_zero, List.setIfInBounds_toArray, List.set_cons_zero, List.set_cons_succ])
  refine wpLA_take (.int .i64 64) (yG_val _ (by rfl) (fun w' _ => by (go_simp; try rfl))) ?_
  (try simp only [Act.put, List.getElem_toArray, List.getElem_cons_succ, List.getElem_cons_zero, List.setIfInBounds_toArray, List.set_cons_zero, List.set_cons_succ])
  refine wpLA_take (.bool false) (yG_val _ (by rfl) (fun w' _ => by (go_simp; try rfl))) ?_
  (try simp only [Act.put, List.getElem_toArray, List.getElem_cons_succ, List.getElem_cons_zero, List.setIfInBounds_toArray, List.set_cons_zero, List.set_cons_succ])
  refine wpLA_end ?_
  intro w5 hb
  have S5 := hid (S4.out.on hb)
  clear hb S4
  go_upto_region 8 with fail
  refine wpLA_start ?_
  refine wpLA_take (.slice (some ⟨b0, o0, none⟩) 64 c'') (yG_val _ (by rfl) (fun w' _ => by (go_simp; try rfl))) ?_
  (try simp only [Act.put, List.getElem_toArray, List.getElem_cons_succ, List.getElem_cons_zero, List.setIfInBounds_toArray, List.set_cons_zero, List.set_cons_succ])
  have HC6 : 64 ≤ c'' := by (have := (HS''.out.on6 S5.out.below).cap; rw [bvs_length, LZS.out] at this; exact this.1)
  refine wpLA_take (.slice (some ⟨b0, o0, none⟩) 32 c'') (yG_val _ (by rfl) (fun w' _ => by (have h1 : (64 : Int) ≤ ((c'' : Nat) : Int) := (by omega); have h2 : (32 : Int) ≤ ((c'' : Nat) : Int) := (by omega); clear HC6; go_simp; try omega; try rfl))) ?_
  (try simp only [Act.put, List.getElem_toArray, List.getElem_cons_succ, List.getElem_cons_zero, List.setIfInBounds_toArray, List.set_cons_zero, List.set_cons_succ])
  have S6 : Hid (St w w5 [] [((some ⟨b0, o0, none⟩), c'', bvs (zs.take 32))]) := hid (S5.out.more (sq_take (HS''.out.on6 S5.out.below) 32))
  clear HC6 S5
  refine wpLA_take (.tuple #[(.agg (vr)), (.bool false)]) (yG_call (by rfl) (fun w' => by go_simp) (fun w' hb => KR.out _ _ w' (S6.out.on hb).sq.1)) ?_
  (try simp only [Act.put, List.getElem_toArray, List.getElem_cons_succ, List.getElem_cons_zero, List.setIfInBounds_toArray, List.set_cons_zero, List.set_cons_succ])
  refine wpLA_take (.tuple #[(.agg (vr)), (.bool false)]) (yG_val _ (by rfl) (fun w' _ => by (go_simp; try rfl))) ?_
  (try simp only [Act.put, List.getElem_toArray, List.getElem_cons_succ, List.getElem_cons_zero, List.setIfInBounds_toArray, List.set_cons_zero, List.set_cons_succ])
  refine wpLA_take (.agg (vr)) (yG_val _ (by rfl) (fun w' _ => by (go_simp; try rfl))) ?_
  (try simp only [Act.put, List.getElem_toArray, List.getElem_cons_succ, List.getElem_cons_zero, List.setIfInBounds_toArray, List.set_cons_zero, List.set_cons_succ])
  refine wpLA_take (.bool false) (yG_val _ (by rfl) (fun w' _ => by (go_simp; try rfl))) ?_
  (try simp only [Act.put, List.getElem_toArray, List.getElem_cons_succ, List.getElem_cons_zero, List.setIfInBounds_toArray, List.set_cons_zero, List.set_cons_succ])
  refine wpLA_alloc (by rfl) rfl zeroP ?_
  intro p7 w7 hp hz hb
  have N7 := hid (S6.out.sq.far hp)
  have S7 : Hid (St w w7 [(p7, zP, PT)] [((some ⟨b0, o0, none⟩), c'', bvs (zs.take 32))]) := hid (S6.out.alloc hb hp hz)
  clear hp hz hb S6
  (try simp only [Act.put, List.getElem_toArray, List.getElem_cons_succ, List.getElem_cons_zero, List.setIfInBounds_toArray, List.set_cons_zero, List.set_cons_succ])
  refine wpLA_store rfl PT (.tmp 8) (.tmp 44) rfl p7 (vr) rfl rfl PT (zP) S7.out.cl.1 HVR.out.info (zP_is.size2 HVR.out) HVR.out.one ?_
  intro wx hb
  have S8 : Hid (St w (wx.setRow p7 (vr)) [(p7, vr, PT)] [((some ⟨b0, o0, none⟩), c'', bvs (zs.take 32))]) := hid ((S7.out.on hb).put 0 rfl N7.out)
  clear hb S7
  generalize wx.setRow p7 (vr) = w8 at S8 ⊢
  (try simp only [Act.put, List.getElem_toArray, List.getElem_cons_succ, List.getElem_cons_zero, List.setIfInBounds_toArray, List.set_cons_zero, List.set_cons_succ])
  refine wpLA_take (.bool false) (yG_val _ (by rfl) (fun w' _ => by (go_simp; try rfl))) ?_
  (try simp only [Act.put, List.getElem_toArray, List.getElem_cons_succ, List.getElem_cons_zero, List.setIfInBounds_toArray, List.set_cons_zero, List.set_cons_succ])
  refine wpLA_end ?_
  intro w9 hb
  have S9 := hid (S8.out.on hb)
  clear hb S8
  go_upto_region 9 with fail
  refine wpLA_start ?_
  refine wpLA_take (.slice A (xs.length) c) (yG_val _ (by rfl) (fun w' _ => by (go_simp; try rfl))) ?_
  (try simp only [Act.put, List.getElem_toArray, List.getElem_cons_succ, List.getElem_cons_zero, List.setIfInBounds_toArray, List.set_cons_zero, List.set_cons_succ])
  refine wpLA_take (.tuple #[(.agg (va)), (.bool q)]) (yG_call (by rfl) (fun w' => by go_simp) (fun w' hb => KA.out _ _ w' (HS.out.on6 ((S9.out.on hb).below)))) ?_
  (try simp only [Act.put, List.getElem_toArray, List.getElem_cons_succ, List.getElem_cons_zero, List.setIfInBounds_toArray, List.set_cons_zero, List.set_cons_succ])
  refine wpLA_take (.tuple #[(.agg (va)), (.bool q)]) (yG_val _ (by rfl) (fun w' _ => by (go_simp; try rfl))) ?_
  (try simp only [Act.put, List.getElem_toArray, List.getElem_cons_succ, List.getElem_cons_zero, List.setIfInBounds_toArray, List.set_cons_zero, List.set_cons_succ])
  refine wpLA_take (.agg (va)) (yG_val _ (by rfl) (fun w' _ => by (go_simp; try rfl))) ?_
  (try simp only [Act.put, List.getElem_toArray, List.getElem_cons_succ, List.getElem_cons_zero, List.setIfInBounds_toArray, List.set_cons_zero, List.set_cons_succ])
  refine wpLA_take (.bool q) (yG_val _ (by rfl) (fun w' _ => by (go_simp; try rfl))) ?_
  (try simp only [Act.put, List.getElem_toArray, List.getElem_cons_succ, List.getElem_cons_zero, List.setIfInBounds_toArray, List.set_cons_zero, List.set_cons_succ])
  refine wpLA_alloc (by rfl) rfl zeroP ?_
  intro p10 w10 hp hz hb
  have N10 := hid (S9.out.sq.far hp)
  have S10 : Hid (St w w10 [(p10, zP, PT), (p7, vr, PT)] [((some ⟨b0, o0, none⟩), c'', bvs (zs.take 32))]) := hid (S9.out.alloc hb hp hz)
  clear hp hz hb S9
  (try simp only [Act.put, List.getElem_toArray, List.getElem_cons_succ, List.getElem_cons_zero, List.setIfInBounds_toArray, List.set_cons_zero, List.set_cons_succ])
  refine wpLA_store rfl PT (.tmp 10) (.tmp 49) rfl p10 (va) rfl rfl PT (zP) S10.out.cl.1 HVA.out.info (zP_is.size2 HVA.out) HVA.out.one ?_
  intro wx hb
  have S11 : Hid (St w (wx.setRow p10 (va)) [(p10, va, PT), (p7, vr, PT)] [((some ⟨b0, o0, none⟩), c'', bvs (zs.take 32))]) := hid ((S10.out.on hb).put 0 rfl N10.out)
  clear hb S10
  generalize wx.setRow p10 (va) = w11 at S11 ⊢
  (try simp only [Act.put, List.getElem_toArray, List.getElem_cons_succ, List.getElem_cons_zero, List.setIfInBounds_toArray, List.set_cons_zero, List.set_cons_succ])
  refine wpLA_take (.bool q) (yG_val _ (by rfl) (fun w' _ => by (go_simp; try rfl))) ?_
  (try simp only [Act.put, List.getElem_toArray, List.getElem_cons_succ, List.getElem_cons_zero, List.setIfInBounds_toArray, List.set_cons_zero, List.set_cons_succ])
  refine wpLA_end ?_
  intro w12 hb
  have S12 := hid (S11.out.on hb)
  clear hb S11
  go_upto_region 10 with fail
  refine wpLA_start ?_
  refine wpLA_take (.slice (some ⟨b0, o0, none⟩) 64 c'') (yG_val _ (by rfl) (fun w' _ => by (go_simp; try rfl))) ?_
  (try simp only [Act.put, List.getElem_toArray, List.getElem_cons_succ, List.getElem_cons_zero, List.setIfInBounds_toArray, List.set_cons_zero, List.set_cons_succ])
  have HC13 : 64 ≤ c'' := by (have := (HS''.out.on6 S12.out.below).cap; rw [bvs_length, LZS.out] at this; exact this.1)
  refine wpLA_take (.slice (some ⟨b0, o0 + 32, none⟩) 32 (c'' - 32)) (yG_val _ (by rfl) (fun w' _ => by (have h1 : (64 : Int) ≤ ((c'' : Nat) : Int) := (by omega); have h2 : (32 : Int) ≤ ((c'' : Nat) : Int) := (by omega); clear HC13; go_simp; try omega; try rfl))) ?_
  (try simp only [Act.put, List.getElem_toArray, List.getElem_cons_succ, List.getElem_cons_zero, List.setIfInBounds_toArray, List.set_cons_zero, List.set_cons_succ])
  have S13 : Hid (St w w12 [(p10, va, PT), (p7, vr, PT)] [((some ⟨b0, o0 + 32, none⟩), (c'' - 32), bvs (zs.drop 32)), ((some ⟨b0, o0, none⟩), c'', bvs (zs.take 32))]) := hid (S12.out.more (sq_drop (HS''.out.on6 S12.out.below) 32 (by rw [LZS.out]; decide)))
  clear HC13 S12
  refine wpLA_big (n0) (by rfl) (fun w' => by go_simp) (fun w' hb => KO6.out _ _ w' (S13.out.on hb).sq.1) ?_
  intro A14 c14 w14 hb hs
  have S14 : Hid (St w w14 [(p10, va, PT), (p7, vr, PT)] [(A14, c14, ivs (dg (n0))), ((some ⟨b0, o0 + 32, none⟩), (c'' - 32), bvs (zs.drop 32)), ((some ⟨b0, o0, none⟩), c'', bvs (zs.take 32))]) := hid ((S13.out.on hb).more hs)
  clear hb hs S13
  (try simp only [Act.put, List.getElem_toArray, List.getElem_cons_succ, List.getElem_cons_zero, List.setIfInBounds_toArray, List.set_cons_zero, List.set_cons_succ])
  refine wpLA_take (.slice A14 ((dg (n0)).length) c14) (yG_val _ (by rfl) (fun w' _ => by (go_simp; try rfl))) ?_
  (try simp only [Act.put, List.getElem_toArray, List.getElem_cons_succ, List.getElem_cons_zero, List.setIfInBounds_toArray, List.set_cons_zero, List.set_cons_succ])
  refine wpLA_end ?_
  intro w15 hb
  have S15 := hid (S14.out.on hb)
  clear hb S14
  go_upto_region 11 with fail
  refine wpLA_start ?_
  refine wpLA_take (.bool false) (yG_val _ (by rfl) (fun w' _ => by (go_simp; try rfl))) ?_
  (try simp only [Act.put, List.getElem_toArray, List.getElem_cons_succ, List.getElem_cons_zero, List.setIfInBounds_toArray, List.set_cons_zero, List.set_cons_succ])
  refine wpLA_take (.bool true) (yG_val _ (by rfl) (fun w' _ => by (go_simp; try rfl))) ?_
  (try simp only [Act.put, List.getElem_toArray, List.getElem_cons_succ, List.getElem_cons_zero, List.setIfInBounds_toArray, List.set_cons_zero, List.set_cons_succ])
  refine wpLA_take (.bool true) (yG_val _ (by rfl) (fun w' _ => by (go_simp; try rfl))) ?_
  (try simp only [Act.put, List.getElem_toArray, List.getElem_cons_succ, List.getElem_cons_zero, List.setIfInBounds_toArray, List.set_cons_zero, List.set_cons_succ])
  refine wpLA_take undef (yG_skip (by rfl)) ?_
  (try simp only [Act.put, List.getElem_toArray, List.getElem_cons_succ, List.getElem_cons_zero, List.setIfInBounds_toArray, List.set_cons_zero, List.set_cons_succ])
  refine wpLA_take undef (yG_skip (by rfl)) ?_
  (try simp only [Act.put, List.getElem_toArray, List.getElem_cons_succ, List.getElem_cons_zero, List.setIfInBounds_toArray, List.set_cons_zero, List.set_cons_succ])
  refine wpLA_take (.bool true) (yG_val _ (by rfl) (fun w' _ => by (go_simp; try rfl))) ?_
  (try simp only [Act.put, List.getElem_toArray, List.getElem_cons_succ, List.getElem_cons_zero, List.setIfInBounds_toArray, List.set_cons_zero, List.set_cons_succ])
  refine wpLA_take (.bool true) (yG_val _ (by rfl) (fun w' _ => by (go_simp; try rfl))) ?_
  (try simp only [Act.put, List.getElem_toArray, List.getElem_cons_succ, List.getElem_cons_zero, List.setIfInBounds_toArray, List.set_cons_zero, List.set_cons_succ])
  refine wpLA_take undef (yG_skip (by rfl)) ?_
  (try simp only [Act.put, List.getElem_toArray, List.getElem_cons_succ, List.getElem_cons_zero, List.setIfInBounds_toArray, List.set_cons_zero, List.set_cons_succ])
  refine wpLA_take undef (yG_skip (by rfl)) ?_
  (try simp only [Act.put, List.getElem_toArray, List.getElem_cons_succ, List.getElem_cons_zero, List.setIfInBounds_toArray, List.set_cons_zero, List.set_cons_succ])
  refine wpLA_take undef (yG_skip (by rfl)) ?_
  (try simp only [Act.put, List.getElem_toArray, List.getElem_cons_succ, List.getElem_cons_zero, List.setIfInBounds_toArray, List.set_cons_zero, List.set_cons_succ])
  refine wpLA_take undef (yG_skip (by rfl)) ?_
  (try simp only [Act.put, List.getElem_toArray, List.getElem_cons_succ, List.getElem_cons_zero, List.setIfInBounds_toArray, List.set_cons_zero, List.set_cons_succ])
  refine wpLA_take (.bool true) (yG_val _ (by rfl) (fun w' _ => by (go_simp; try rfl))) ?_
  (try simp only [Act.put, List.getElem_toArray, List.getElem_cons_succ, List.getElem_cons_zero, List.setIfInBounds_toArray, List.set_cons_zero, List.set_cons_succ])
  refine wpLA_end ?_
  intro w16 hb
  have S16 := hid (S15.out.on hb)
  clear hb S15
  go_upto_region 12 with fail
  refine wpLA_start ?_
  refine wpLA_take (.bool false) (yG_val _ (by rfl) (fun w' _ => by (go_simp; try rfl))) ?_
  (try simp only [Act.put, List.getElem_toArray, List.getElem_cons_succ, List.getElem_cons_zero, List.setIfInBounds_toArray, List.set_cons_zero, List.set_cons_succ])
  refine wpLA_take (.bool true) (yG_val _ (by rfl) (fun w' _ => by (go_simp; try rfl))) ?_
  (try simp only [Act.put, List.getElem_toArray, List.getElem_cons_succ, List.getElem_cons_zero, List.setIfInBounds_toArray, List.set_cons_zero, List.set_cons_succ])
  refine wpLA_take (.bool true) (yG_val _ (by rfl) (fun w' _ => by (go_simp; try rfl))) ?_
  (try simp only [Act.put, List.getElem_toArray, List.getElem_cons_succ, List.getElem_cons_zero, List.setIfInBounds_toArray, List.set_cons_zero, List.set_cons_succ])
  refine wpLA_end ?_
  intro w17 hb
  have S17 := hid (S16.out.on hb)
  clear hb S16
  go_wp2_with fail
  go_ret
  exact ⟨rfl, S17.out.below⟩
set_option maxRecDepth 100000 in
set_option maxHeartbeats 4000000 in
theorem holds_a (A : Option Addr) (xs : List UInt8) (c : Nat) (A' : Option Addr) (ys : List UInt8) (c' : Nat) (A'' : Option Addr) (zs : List UInt8) (c'' : Nat) (w : World) (hG : GlobL w) (hS : Sq w w.heap.size A c (bvs xs)) (hS' : Sq w w.heap.size A' c' (bvs ys)) (hS'' : Sq w w.heap.size A'' c'' (bvs zs)) (hx : xs.length ≤ 60) (hy : ys.length ≤ 200) (h64 : zs.length = 64) (hr : (ptOf (zs.take 32)).isSome = true) (ha : ptOf xs = none) :
    Calls Tryz.prog 3 #[.slice A xs.length c, .slice A' ys.length c', .slice A'' 64 c''] w fun e w' => e = .returned (.bool true) ∧ Below w.heap.size w w' := by
  obtain ⟨b0, o0, rfl, -⟩ := hS''.form (by rw [bvs_length]; omega)
  have HS := hid hS; have HS' := hid hS'; have HS'' := hid hS''; have HG := hid hG; have LZS := hid h64
  have l32 : (zs.take 32).length = 32 := by rw [List.length_take, h64]; rfl
  have d32 : (zs.drop 32).length = 32 := by rw [List.length_drop, h64]
  obtain ⟨vr, hvr, hkr⟩ := CvOf (zs.take 32) (by omega)
  obtain ⟨va, hva, KA⟩ := CvOf xs (by omega)
  rw [l32] at hkr
  have KR := hkr
  have HVR := hid hvr; have HVA := hid hva
  obtain ⟨n0, hn0⟩ : ∃ n, n = leN (zs.drop 32) := ⟨_, rfl⟩
  have KO6 : Hid (∀ (A : Option Addr) (c : Nat) (W : World), Sq W W.heap.size A c (bvs (zs.drop 32)) → Calls Tryz.prog 7 #[.slice A 32 c] W (BigR W n0)) := hid fun A c W h => by
    have := Of6_any A (zs.drop 32) c W h (by omega)
    rw [d32, ← hn0] at this; exact this
  have hn0l : n0 < 256 ^ 32 := by have := leN_lt (zs.drop 32); rw [d32, ← hn0] at this; exact this
  have hdl : (dg n0).length ≤ 1099511627776 := by have := (dg_length_le n0 40).2 (Nat.lt_trans hn0l (by decide +kernel)); omega
  have KLE0 := fun A c A2 c2 (W : World) (h : Sq W W.heap.size A c (ivs (dg n0))) (h' : Sq W W.heap.size A2 c2 (ivs (dg ordL))) => calls_drew (Less_any n0 ordL A A2 c c2 _ _ W h h' hdl)
  rw [hr] at KR
  rw [ha] at KA
  simp only [Option.isSome_none] at KA
  have hf : holdsB xs ys zs = false := by unfold holdsB; rw [ha]; simp
  have KH : Hid (∀ (A : Option Addr) (c : Nat) (A2 : Option Addr) (c2 : Nat) (A3 : Option Addr) (c3 : Nat) (W : World), GlobL W → Sq W W.heap.size A c (bvs xs) → Sq W W.heap.size A2 c2 (bvs ys) → Sq W W.heap.size A3 c3 (bvs zs) → Calls Tryz.prog 5 #[.slice A xs.length c, .slice A2 ys.length c2, .slice A3 64 c3] W fun e w' => e = .returned (.bool false) ∧ Below W.heap.size W w') := hid fun A c A2 c2 A3 c3 W hG h h' h'' => by
    have := SgHolds A xs c A2 ys c2 A3 zs c3 W hG h h' h'' (by omega) (by omega) (by omega)
    rw [hf, h64] at this; exact this
  have HX := hid (show ¬ (60 : Int) < (xs.length : Int) by omega)
  have HY := hid (show ¬ (200 : Int) < (ys.length : Int) by omega)
  clear hG hS hS' hS'' hx hy h64 l32 d32 hvr hva hkr hn0 hn0l hdl KLE0 hf hr ha
  go_enter Tryz.func3, Tryz.ntmps3
  have S0 : Hid (St w w [] []) := hid (St.start w)
  go_upto_region 0 with fail
  refine wpLA_start ?_
  refine wpLA_take (.bool false) (yG_val _ (by rfl) (fun w' _ => by (go_simp; try rfl))) ?_
  (try simp only [Act.put, List.getElem_toArray, List.getElem_cons_succ, List.getElem_cons_zero, List.setIfInBounds_toArray, List.set_cons_zero, List.set_cons_succ])
  refine wpLA_end ?_
  intro w1 hb
  have S1 := hid (S0.out.on hb)
  clear hb S0
  go_upto_region 1 with fail
  refine wpLA_start ?_
  refine wpLA_take (.bool true) (yG_call (by rfl) (fun w' => by go_simp) (fun w' hb => alive10_any w' (HG.out.below (S1.out.on hb).below (Nat.le_refl _)))) ?_
  (try simp only [Act.put, List.getElem_toArray, List.getElem_cons_succ, List.getElem_cons_zero, List.setIfInBounds_toArray, List.set_cons_zero, List.set_cons_succ])
  refine wpLA_take (.bool false) (yG_val _ (by rfl) (fun w' _ => by (go_simp; try rfl))) ?_
  (try simp only [Act.put, List.getElem_toArray, List.getElem_cons_succ, List.getElem_cons_zero, List.setIfInBounds_toArray, List.set_cons_zero, List.set_cons_succ])
  refine wpLA_end ?_
  intro w2 hb
  have S2 := hid (S1.out.on hb)
  clear hb S1
  go_upto_region 3 with fail
  refine wpLA_start ?_
  refine wpLA_take (.slice A (xs.length) c) (yG_val _ (by rfl) (fun w' _ => by (go_simp; try rfl))) ?_
  (try simp only [Act.put, List.getElem_toArray, List.getElem_cons_succ, List.getElem_cons_zero, List.setIfInBounds_toArray, List.set_cons_zero, List.set_cons_succ])
  refine wpLA_take (.int .i64 ((xs.length : Nat))) (yG_val _ (by rfl) (fun w' _ => by (go_simp; try rfl))) ?_
  (try simp only [Act.put, List.getElem_toArray, List.getElem_cons_succ, List.getElem_cons_zero, List.setIfInBounds_toArray, List.set_cons_zero, List.set_cons_succ])
  refine wpLA_take (.bool false) (yG_val _ (by rfl) (fun w' _ => by (have h := HX.out; go_simp; try omega))) ?_
  (try simp only [Act.put, List.getElem_toArray, List.getElem_cons_succ, List.getElem_cons_zero, List.setIfInBounds_toArray, List.set_cons_zero, List.set_cons_succ])
  refine wpLA_take (.bool false) (yG_val _ (by rfl) (fun w' _ => by (go_simp; try rfl))) ?_
  (try simp only [Act.put, List.getElem_toArray, List.getElem_cons_succ, List.getElem_cons_zero, List.setIfInBounds_toArray, List.set_cons_zero, List.set_cons_succ])
  refine wpLA_take (.slice A' (ys.length) c') (yG_val _ (by rfl) (fun w' _ => by (go_simp; try rfl))) ?_
  (try simp only [Act.put, List.getElem_toArray, List.getElem_cons_succ, List.getElem_cons_zero, List.setIfInBounds_toArray, List.set_cons_zero, List.set_cons_succ])
  refine wpLA_take (.int .i64 ((ys.length : Nat))) (yG_val _ (by rfl) (fun w' _ => by (go_simp; try rfl))) ?_
  (try simp only [Act.put, List.getElem_toArray, List.getElem_cons_succ, List.getElem_cons_zero, List.setIfInBounds_toArray, List.set_cons_zero, List.set_cons_succ])
  refine wpLA_take (.bool false) (yG_val _ (by rfl) (fun w' _ => by (have h := HY.out; go_simp; try omega))) ?_
  (try simp only [Act.put, List.getElem_toArray, List.getElem_cons_succ, List.getElem_cons_zero, List.setIfInBounds_toArray, List.set_cons_zero, List.set_cons_succ])
  refine wpLA_take (.bool false) (yG_val _ (by rfl) (fun w' _ => by (go_simp; try rfl))) ?_
  (try simp only [Act.put, List.getElem_toArray, List.getElem_cons_succ, List.getElem_cons_zero, List.setIfInBounds_toArray, List.set_cons_zero, List.set_cons_succ])
  refine wpLA_take (.bool false) (yG_val _ (by rfl) (fun w' _ => by (go_simp; try rfl))) ?_
  (try simp only [Act.put, List.getElem_toArray, List.getElem_cons_succ, List.getElem_cons_zero, List.setIfInBounds_toArray, List.set_cons_zero, List.set_cons_succ])
  refine wpLA_take (.slice (some ⟨b0, o0, none⟩) 64 c'') (yG_val _ (by rfl) (fun w' _ => by (go_simp; try rfl))) ?_
  (try simp only [Act.put, List.getElem_toArray, List.getElem_cons_succ, List.getElem_cons_zero, List.setIfInBounds_toArray, List.set_cons_zero, List.set_cons_succ])
  refine wpLA_take (.int .i64 64) (yG_val _ (by rfl) (fun w' _ => by (go_simp; try rfl))) ?_
  (try simp only [Act.put, List.getElem_toArray, List.getElem_cons_succ, List.getElem_cons_zero, List.setIfInBounds_toArray, List.set_cons_zero, List.set_cons_succ])
  refine wpLA_take (.bool false) (yG_val _ (by rfl) (fun w' _ => by (go_simp; try rfl))) ?_
  (try simp only [Act.put, List.getElem_toArray, List.getElem_cons_succ, List.getElem_cons_zero, List.setIfInBounds_toArray, List.set_cons_zero, List.set_cons_succ])
  refine wpLA_take (.bool false) (yG_val _ (by rfl) (fun w' _ => by (go_simp; try rfl))) ?_
  (try simp only [Act.put, List.getElem_toArray, List.getElem_cons_succ, List.getElem_cons_zero, List.setIfInBounds_toArray, List.set_cons_zero, List.set_cons_succ])
  refine wpLA_end ?_
  intro w3 hb
  have S3 := hid (S2.out.on hb)
  clear hb S2
  go_upto_region 5 with fail
  refine wpLA_start ?_
  refine wpLA_take (.slice A (xs.length) c) (yG_val _ (by rfl) (fun w' _ => by (go_simp; try rfl))) ?_
  (try simp only [Act.put, List.getElem_toArray, List.getElem_cons_succ, List.getElem_cons_zero, List.setIfInBounds_toArray, List.set_cons_zero, List.set_cons_succ])
  refine wpLA_take (.slice A' (ys.length) c') (yG_val _ (by rfl) (fun w' _ => by (go_simp; try rfl))) ?_
  (try simp only [Act.put, List.getElem_toArray, List.getElem_cons_succ, List.getElem_cons_zero, List.setIfInBounds_toArray, List.set_cons_zero, List.set_cons_succ])
  refine wpLA_take (.slice (some ⟨b0, o0, none⟩) 64 c'') (yG_val _ (by rfl) (fun w' _ => by (go_simp; try rfl))) ?_
  (try simp only [Act.put, List.getElem_toArray, List.getElem_cons_succ, List.getElem_cons_zero, List.setIfInBounds_toArray, List.set_cons_zero, List.set_cons_succ])
  refine wpLA_take (.bool false) (yG_call (by rfl) (fun w' => by go_simp) (fun w' hb => KH.out _ _ _ _ _ _ w' (HG.out.below (S3.out.on hb).below (Nat.le_refl _)) (HS.out.on6 ((S3.out.on hb).below)) (HS'.out.on6 ((S3.out.on hb).below)) (HS''.out.on6 ((S3.out.on hb).below)))) ?_
  (try simp only [Act.put, List.getElem_toArray, List.getElem_cons_succ, List.getElem_cons_zero, List.setIfInBounds_toArray, List.set_cons_zero, List.set_cons_succ])
  refine wpLA_take (.bool false) (yG_val _ (by rfl) (fun w' _ => by (go_simp; try rfl))) ?_
  (try simp only [Act.put, List.getElem_toArray, List.getElem_cons_succ, List.getElem_cons_zero, List.setIfInBounds_toArray, List.set_cons_zero, List.set_cons_succ])
  refine wpLA_end ?_
  intro w4 hb
  have S4 := hid (S3.out.on hb)
  clear hb S3
  go_upto_region 6 with fail
  refine wpLA_start ?_
  refine wpLA_take (.slice (some ⟨b0, o0, none⟩) 64 c'') (yG_val _ (by rfl) (fun w' _ => by (go_simp; try rfl))) ?_
  (try simp only [Act.put, List.getElem_toArray, List.getElem_cons_succ, List.getElem_cons_zero, List.setIfInBounds_toArray, List.set_cons_zero, List.set_cons_succ])
  refine wpLA_take (.int .i64 64) (yG_val _ (by rfl) (fun w' _ => by (go_simp; try rfl))) ?_
  (try simp only [Act.put, List.getElem_toArray, List.getElem_cons_succ, List.getElem_cons_zero, List.setIfInBounds_toArray, List.set_cons_zero, List.set_cons_succ])
  refine wpLA_take (.bool false) (yG_val _ (by rfl) (fun w' _ => by (go_simp; try rfl))) ?_
  (try simp only [Act.put, List.getElem_toArray, List.getElem_cons_succ, List.getElem_cons_zero, List.setIfInBounds_toArray, List.set_cons_zero, List.set_cons_succ])
  refine wpLA_end ?_
  intro w5 hb
  have S5 := hid (S4.out.on hb)
  clear hb S4
  go_upto_region 8 with fail
  refine wpLA_start ?_
  refine wpLA_take (.slice (some ⟨b0, o0, none⟩) 64 c'') (yG_val _ (by rfl) (fun w' _ => by (go_simp; try rfl))) ?_
  (try simp only [Act.put, List.getElem_toArray, List.getElem_cons_succ, List.getElem_cons_zero, List.setIfInBounds_toArray, List.set_cons_zero, List.set_cons_succ])
  have HC6 : 64 ≤ c'' := by (have := (HS''.out.on6 S5.out.below).cap; rw [bvs_length, LZS.out] at this; exact this.1)
  refine wpLA_take (.slice (some ⟨b0, o0, none⟩) 32 c'') (yG_val _ (by rfl) (fun w' _ => by (have h1 : (64 : Int) ≤ ((c'' : Nat) : Int) := (by omega); have h2 : (32 : Int) ≤ ((c'' : Nat) : Int) := (by omega); clear HC6; go_simp; try omega; try rfl))) ?_
  (try simp only [Act.put, List.getElem_toArray, List.getElem_cons_succ, List.getElem_cons_zero, List.setIfInBounds_toArray, List.set_cons_zero, List.set_cons_succ])
  have S6 : Hid (St w w5 [] [((some ⟨b0, o0, none⟩), c'', bvs (zs.take 32))]) := hid (S5.out.more (sq_take (HS''.out.on6 S5.out.below) 32))
  clear HC6 S5
  refine wpLA_take (.tuple #[(.agg (vr)), (.bool true)]) (yG_call (by rfl) (fun w' => by go_simp) (fun w' hb => KR.out _ _ w' (S6.out.on hb).sq.1)) ?_
  (try simp only [Act.put, List.getElem_toArray, List.getElem_cons_succ, List.getElem_cons_zero, List.setIfInBounds_toArray, List.set_cons_zero, List.set_cons_succ])
  refine wpLA_take (.tuple #[(.agg (vr)), (.bool true)]) (yG_val _ (by rfl) (fun w' _ => by (go_simp; try rfl))) ?_
  (try simp only [Act.put, List.getElem_toArray, List.getElem_cons_succ, List.getElem_cons_zero, List.setIfInBounds_toArray, List.set_cons_zero, List.set_cons_succ])
  refine wpLA_take (.agg (vr)) (yG_val _ (by rfl) (fun w' _ => by (go_simp; try rfl))) ?_
  (try simp only [Act.put, List.getElem_toArray, List.getElem_cons_succ, List.getElem_cons_zero, List.setIfInBounds_toArray, List.set_cons_zero, List.set_cons_succ])
  refine wpLA_take (.bool true) (yG_val _ (by rfl) (fun w' _ => by (go_simp; try rfl))) ?_
  (try simp only [Act.put, List.getElem_toArray, List.getElem_cons_succ, List.getElem_cons_zero, List.setIfInBounds_toArray, List.set_cons_zero, List.set_cons_succ])
  refine wpLA_alloc (by rfl) rfl zeroP ?_
  intro p7 w7 hp hz hb
  have N7 := hid (S6.out.sq.far hp)
  have S7 : Hid (St w w7 [(p7, zP, PT)] [((some ⟨b0, o0, none⟩), c'', bvs (zs.take 32))]) := hid (S6.out.alloc hb hp hz)
  clear hp hz hb S6
  (try simp only [Act.put, List.getElem_toArray, List.getElem_cons_succ, List.getElem_cons_zero, List.setIfInBounds_toArray, List.set_cons_zero, List.set_cons_succ])
  refine wpLA_store rfl PT (.tmp 8) (.tmp 44) rfl p7 (vr) rfl rfl PT (zP) S7.out.cl.1 HVR.out.info (zP_is.size2 HVR.out) HVR.out.one ?_
  intro wx hb
  have S8 : Hid (St w (wx.setRow p7 (vr)) [(p7, vr, PT)] [((some ⟨b0, o0, none⟩), c'', bvs (zs.take 32))]) := hid ((S7.out.on hb).put 0 rfl N7.out)
  clear hb S7
  generalize wx.setRow p7 (vr) = w8 at S8 ⊢
  (try simp only [Act.put, List.getElem_toArray, List.getElem_cons_succ, List.getElem_cons_zero, List.setIfInBounds_toArray, List.set_cons_zero, List.set_cons_succ])
  refine wpLA_take (.bool true) (yG_val _ (by rfl) (fun w' _ => by (go_simp; try rfl))) ?_
  (try simp only [Act.put, List.getElem_toArray, List.getElem_cons_succ, List.getElem_cons_zero, List.setIfInBounds_toArray, List.set_cons_zero, List.set_cons_succ])
  refine wpLA_end ?_
  intro w9 hb
  have S9 := hid (S8.out.on hb)
  clear hb S8
  go_upto_region 9 with fail
  refine wpLA_start ?_
  refine wpLA_take (.slice A (xs.length) c) (yG_val _ (by rfl) (fun w' _ => by (go_simp; try rfl))) ?_
  (try simp only [Act.put, List.getElem_toArray, List.getElem_cons_succ, List.getElem_cons_zero, List.setIfInBounds_toArray, List.set_cons_zero, List.set_cons_succ])
  refine wpLA_take (.tuple #[(.agg (va)), (.bool false)]) (yG_call (by rfl) (fun w' => by go_simp) (fun w' hb => KA.out _ _ w' (HS.out.on6 ((S9.out.on hb).below)))) ?_
  (try simp only [Act.put, List.getElem_toArray, List.getElem_cons_succ, List.getElem_cons_zero, List.setIfInBounds_toArray, List.set_cons_zero, List.set_cons_succ])
  refine wpLA_take (.tuple #[(.agg (va)), (.bool false)]) (yG_val _ (by rfl) (fun w' _ => by (go_simp; try rfl))) ?_
  (try simp only [Act.put, List.getElem_toArray, List.getElem_cons_succ, List.getElem_cons_zero, List.setIfInBounds_toArray, List.set_cons_zero, List.set_cons_succ])
  refine wpLA_take (.agg (va)) (yG_val _ (by rfl) (fun w' _ => by (go_simp; try rfl))) ?_
  (try simp only [Act.put, List.getElem_toArray, List.getElem_cons_succ, List.getElem_cons_zero, List.setIfInBounds_toArray, List.set_cons_zero, List.set_cons_succ])
  refine wpLA_take (.bool false) (yG_val _ (by rfl) (fun w' _ => by (go_simp; try rfl))) ?_
  (try simp only [Act.put, List.getElem_toArray, List.getElem_cons_succ, List.getElem_cons_zero, List.setIfInBounds_toArray, List.set_cons_zero, List.set_cons_succ])
  refine wpLA_alloc (by rfl) rfl zeroP ?_
  intro p10 w10 hp hz hb
  have N10 := hid (S9.out.sq.far hp)
  have S10 : Hid (St w w10 [(p10, zP, PT), (p7, vr, PT)] [((some ⟨b0, o0, none⟩), c'', bvs (zs.take 32))]) := hid (S9.out.alloc hb hp hz)
  clear hp hz hb S9
  (try simp only [Act.put, List.getElem_toArray, List.getElem_cons_succ, List.getElem_cons_zero, List.setIfInBounds_toArray, List.set_cons_zero, List.set_cons_succ])
  refine wpLA_store rfl PT (.tmp 10) (.tmp 49) rfl p10 (va) rfl rfl PT (zP) S10.out.cl.1 HVA.out.info (zP_is.size2 HVA.out) HVA.out.one ?_
  intro wx hb
  have S11 : Hid (St w (wx.setRow p10 (va)) [(p10, va, PT), (p7, vr, PT)] [((some ⟨b0, o0, none⟩), c'', bvs (zs.take 32))]) := hid ((S10.out.on hb).put 0 rfl N10.out)
  clear hb S10
  generalize wx.setRow p10 (va) = w11 at S11 ⊢
  (try simp only [Act.put, List.getElem_toArray, List.getElem_cons_succ, List.getElem_cons_zero, List.setIfInBounds_toArray, List.set_cons_zero, List.set_cons_succ])
  refine wpLA_take (.bool false) (yG_val _ (by rfl) (fun w' _ => by (go_simp; try rfl))) ?_
  (try simp only [Act.put, List.getElem_toArray, List.getElem_cons_succ, List.getElem_cons_zero, List.setIfInBounds_toArray, List.set_cons_zero, List.set_cons_succ])
  refine wpLA_end ?_
  intro w12 hb
  have S12 := hid (S11.out.on hb)
  clear hb S11
  go_upto_region 10 with fail
  refine wpLA_start ?_
  refine wpLA_take (.slice (some ⟨b0, o0, none⟩) 64 c'') (yG_val _ (by rfl) (fun w' _ => by (go_simp; try rfl))) ?_
  (try simp only [Act.put, List.getElem_toArray, List.getElem_cons_succ, List.getElem_cons_zero, List.setIfInBounds_toArray, List.set_cons_zero, List.set_cons_succ])
  have HC13 : 64 ≤ c'' := by (have := (HS''.out.on6 S12.out.below).cap; rw [bvs_length, LZS.out] at this; exact this.1)
  refine wpLA_take (.slice (some ⟨b0, o0 + 32, none⟩) 32 (c'' - 32)) (yG_val _ (by rfl) (fun w' _ => by (have h1 : (64 : Int) ≤ ((c'' : Nat) : Int) := (by omega); have h2 : (32 : Int) ≤ ((c'' : Nat) : Int) := (by omega); clear HC13; go_simp; try omega; try rfl))) ?_
  (try simp only [Act.put, List.getElem_toArray, List.getElem_cons_succ, List.getElem_cons_zero, List.setIfInBounds_toArray, List.set_cons_zero, List.set_cons_succ])
  have S13 : Hid (St w w12 [(p10, va, PT), (p7, vr, PT)] [((some ⟨b0, o0 + 32, none⟩), (c'' - 32), bvs (zs.drop 32)), ((some ⟨b0, o0, none⟩), c'', bvs (zs.take 32))]) := hid (S12.out.more (sq_drop (HS''.out.on6 S12.out.below) 32 (by rw [LZS.out]; decide)))
  clear HC13 S12
  refine wpLA_big (n0) (by rfl) (fun w' => by go_simp) (fun w' hb => KO6.out _ _ w' (S13.out.on hb).sq.1) ?_
  intro A14 c14 w14 hb hs
  have S14 : Hid (St w w14 [(p10, va, PT), (p7, vr, PT)] [(A14, c14, ivs (dg (n0))), ((some ⟨b0, o0 + 32, none⟩), (c'' - 32), bvs (zs.drop 32)), ((some ⟨b0, o0, none⟩), c'', bvs (zs.take 32))]) := hid ((S13.out.on hb).more hs)
  clear hb hs S13
  (try simp only [Act.put, List.getElem_toArray, List.getElem_cons_succ, List.getElem_cons_zero, List.setIfInBounds_toArray, List.set_cons_zero, List.set_cons_succ])
  refine wpLA_take (.slice A14 ((dg (n0)).length) c14) (yG_val _ (by rfl) (fun w' _ => by (go_simp; try rfl))) ?_
  (try simp only [Act.put, List.getElem_toArray, List.getElem_cons_succ, List.getElem_cons_zero, List.setIfInBounds_toArray, List.set_cons_zero, List.set_cons_succ])
  refine wpLA_end ?_
  intro w15 hb
  have S15 := hid (S14.out.on hb)
  clear hb S14
  go_upto_region 11 with fail
  refine wpLA_start ?_
  refine wpLA_take (.bool true) (yG_val _ (by rfl) (fun w' _ => by (go_simp; try rfl))) ?_
  (try simp only [Act.put, List.getElem_toArray, List.getElem_cons_succ, List.getElem_cons_zero, List.setIfInBounds_toArray, List.set_cons_zero, List.set_cons_succ])
  refine wpLA_take (.bool false) (yG_val _ (by rfl) (fun w' _ => by (go_simp; try rfl))) ?_
  (try simp only [Act.put, List.getElem_toArray, List.getElem_cons_succ, List.getElem_cons_zero, List.setIfInBounds_toArray, List.set_cons_zero, List.set_cons_succ])
  refine wpLA_take (.bool false) (yG_val _ (by rfl) (fun w' _ => by (go_simp; try rfl))) ?_
  (try simp only [Act.put, List.getElem_toArray, List.getElem_cons_succ, List.getElem_cons_zero, List.setIfInBounds_toArray, List.set_cons_zero, List.set_cons_succ])
  refine wpLA_take (.bool false) (yG_val _ (by rfl) (fun w' _ => by (go_simp; try rfl))) ?_
  (try simp only [Act.put, List.getElem_toArray, List.getElem_cons_succ, List.getElem_cons_zero, List.setIfInBounds_toArray, List.set_cons_zero, List.set_cons_succ])
  refine wpLA_take (.bool true) (yG_val _ (by rfl) (fun w' _ => by (go_simp; try rfl))) ?_
  (try simp only [Act.put, List.getElem_toArray, List.getElem_cons_succ, List.getElem_cons_zero, List.setIfInBounds_toArray, List.set_cons_zero, List.set_cons_succ])
  refine wpLA_take (.bool true) (yG_val _ (by rfl) (fun w' _ => by (go_simp; try rfl))) ?_
  (try simp only [Act.put, List.getElem_toArray, List.getElem_cons_succ, List.getElem_cons_zero, List.setIfInBounds_toArray, List.set_cons_zero, List.set_cons_succ])
  refine wpLA_take (.bool true) (yG_val _ (by rfl) (fun w' _ => by (go_simp; try rfl))) ?_
  (try simp only [Act.put, List.getElem_toArray, List.getElem_cons_succ, List.getElem_cons_zero, List.setIfInBounds_toArray, List.set_cons_zero, List.set_cons_succ])
  refine wpLA_take undef (yG_skip (by rfl)) ?_
  (try simp only [Act.put, List.getElem_toArray, List.getElem_cons_succ, List.getElem_cons_zero, List.setIfInBounds_toArray, List.set_cons_zero, List.set_cons_succ])
  refine wpLA_take undef (yG_skip (by rfl)) ?_
  (try simp only [Act.put, List.getElem_toArray, List.getElem_cons_succ, List.getElem_cons_zero, List.setIfInBounds_toArray, List.set_cons_zero, List.set_cons_succ])
  refine wpLA_take undef (yG_skip (by rfl)) ?_
  (try simp only [Act.put, List.getElem_toArray, List.getElem_cons_succ, List.getElem_cons_zero, List.setIfInBounds_toArray, List.set_cons_zero, List.set_cons_succ])
  refine wpLA_take undef (yG_skip (by rfl)) ?_
  (try simp only [Act.put, List.getElem_toArray, List.getElem_cons_succ, List.getElem_cons_zero, List.setIfInBounds_toArray, List.set_cons_zero, List.set_cons_succ])
  refine wpLA_take (.bool true) (yG_val _ (by rfl) (fun w' _ => by (go_simp; try rfl))) ?_
  (try simp only [Act.put, List.getElem_toArray, List.getElem_cons_succ, List.getElem_cons_zero, List.setIfInBounds_toArray, List.set_cons_zero, List.set_cons_succ])
  refine wpLA_end ?_
  intro w16 hb
  have S16 := hid (S15.out.on hb)
  clear hb S15
  go_upto_region 12 with fail
  refine wpLA_start ?_
  refine wpLA_take (.bool false) (yG_val _ (by rfl) (fun w' _ => by (go_simp; try rfl))) ?_
  (try simp only [Act.put, List.getElem_toArray, List.getElem_cons_succ, List.getElem_cons_zero, List.setIfInBounds_toArray, List.set_cons_zero, List.set_cons_succ])
  refine wpLA_take (.bool true) (yG_val _ (by rfl) (fun w' _ => by (go_simp; try rfl))) ?_
  (try simp only [Act.put, List.getElem_toArray, List.getElem_cons_succ, List.getElem_cons_zero, List.setIfInBounds_toArray, List.set_cons_zero, List.set_cons_succ])
  refine wpLA_take (.bool true) (yG_val _ (by rfl) (fun w' _ => by (go_simp; try rfl))) ?_
  (try simp only [Act.put, List.getElem_toArray, List.getElem_cons_succ, List.getElem_cons_zero, List.setIfInBounds_toArray, List.set_cons_zero, List.set_cons_succ])
  refine wpLA_end ?_
  intro w17 hb
  have S17 := hid (S16.out.on hb)
  clear hb S16
  go_wp2_with fail
  go_ret
  exact ⟨rfl, S17.out.below⟩
set_option maxRecDepth 100000 in
set_option maxHeartbeats 4000000 in
theorem holds_n (A : Option Addr) (xs : List UInt8) (c : Nat) (A' : Option Addr) (ys : List UInt8) (c' : Nat) (A'' : Option Addr) (zs : List UInt8) (c'' : Nat) (w : World) (hG : GlobL w) (hS : Sq w w.heap.size A c (bvs xs)) (hS' : Sq w w.heap.size A' c' (bvs ys)) (hS'' : Sq w w.heap.size A'' c'' (bvs zs)) (hx : xs.length ≤ 60) (hy : ys.length ≤ 200) (h64 : zs.length = 64) (hr : (ptOf (zs.take 32)).isSome = true) (ha : (ptOf xs).isSome = true) (hl : ¬ leN (zs.drop 32) < ordL) :
    Calls Tryz.prog 3 #[.slice A xs.length c, .slice A' ys.length c', .slice A'' 64 c''] w fun e w' => e = .returned (.bool true) ∧ Below w.heap.size w w' := by
  obtain ⟨b0, o0, rfl, -⟩ := hS''.form (by rw [bvs_length]; omega)
  have HS := hid hS; have HS' := hid hS'; have HS'' := hid hS''; have HG := hid hG; have LZS := hid h64
  have l32 : (zs.take 32).length = 32 := by rw [List.length_take, h64]; rfl
  have d32 : (zs.drop 32).length = 32 := by rw [List.length_drop, h64]
  obtain ⟨vr, hvr, hkr⟩ := CvOf (zs.take 32) (by omega)
  obtain ⟨va, hva, KA⟩ := CvOf xs (by omega)
  rw [l32] at hkr
  have KR := hkr
  have HVR := hid hvr; have HVA := hid hva
  obtain ⟨n0, hn0⟩ : ∃ n, n = leN (zs.drop 32) := ⟨_, rfl⟩
  have KO6 : Hid (∀ (A : Option Addr) (c : Nat) (W : World), Sq W W.heap.size A c (bvs (zs.drop 32)) → Calls Tryz.prog 7 #[.slice A 32 c] W (BigR W n0)) := hid fun A c W h => by
    have := Of6_any A (zs.drop 32) c W h (by omega)
    rw [d32, ← hn0] at this; exact this
  have hn0l : n0 < 256 ^ 32 := by have := leN_lt (zs.drop 32); rw [d32, ← hn0] at this; exact this
  have hdl : (dg n0).length ≤ 1099511627776 := by have := (dg_length_le n0 40).2 (Nat.lt_trans hn0l (by decide +kernel)); omega
  have KLE0 := fun A c A2 c2 (W : World) (h : Sq W W.heap.size A c (ivs (dg n0))) (h' : Sq W W.heap.size A2 c2 (ivs (dg ordL))) => calls_drew (Less_any n0 ordL A A2 c c2 _ _ W h h' hdl)
  rw [hr] at KR
  rw [ha] at KA
  have KLE : Hid (∀ (A : Option Addr) (c : Nat) (A2 : Option Addr) (c2 : Nat) (W : World), Sq W W.heap.size A c (ivs (dg n0)) → Sq W W.heap.size A2 c2 (ivs (dg ordL)) → Calls Tryz.prog 8 #[.slice A (dg n0).length c, .slice A2 (dg ordL).length c2] W fun e w' => e = .returned (.bool false) ∧ Below W.heap.size W w') := hid fun A c A2 c2 W h h' => by
    have := KLE0 A c A2 c2 W h h'
    rw [decide_eq_false (by rw [hn0]; exact hl)] at this; exact this
  have hf : holdsB xs ys zs = false := by exact holds_long (by unfold exB; exact decide_eq_false (fun h => hl h.2))
  have KH : Hid (∀ (A : Option Addr) (c : Nat) (A2 : Option Addr) (c2 : Nat) (A3 : Option Addr) (c3 : Nat) (W : World), GlobL W → Sq W W.heap.size A c (bvs xs) → Sq W W.heap.size A2 c2 (bvs ys) → Sq W W.heap.size A3 c3 (bvs zs) → Calls Tryz.prog 5 #[.slice A xs.length c, .slice A2 ys.length c2, .slice A3 64 c3] W fun e w' => e = .returned (.bool false) ∧ Below W.heap.size W w') := hid fun A c A2 c2 A3 c3 W hG h h' h'' => by
    have := SgHolds A xs c A2 ys c2 A3 zs c3 W hG h h' h'' (by omega) (by omega) (by omega)
    rw [hf, h64] at this; exact this
  have HX := hid (show ¬ (60 : Int) < (xs.length : Int) by omega)
  have HY := hid (show ¬ (200 : Int) < (ys.length : Int) by omega)
  clear hG hS hS' hS'' hx hy h64 l32 d32 hvr hva hkr hn0 hn0l hdl KLE0 hf hr ha hl
  go_enter Tryz.func3, Tryz.ntmps3
  have S0 : Hid (St w w [] []) := hid (St.start w)
  go_upto_region 0 with fail
  refine wpLA_start ?_
  refine wpLA_take (.bool false) (yG_val _ (by rfl) (fun w' _ => by (go_simp; try rfl))) ?_
  (try simp only [Act.put, List.getElem_toArray, List.getElem_cons_succ, List.getElem_cons_zero, List.setIfInBounds_toArray, List.set_cons_zero, List.set_cons_succ])
  refine wpLA_end ?_
  intro w1 hb
  have S1 := hid (S0.out.on hb)
  clear hb S0
  go_upto_region 1 with fail
  refine wpLA_start ?_
  refine wpLA_take (.bool true) (yG_call (by rfl) (fun w' => by go_simp) (fun w' hb => alive10_any w' (HG.out.below (S1.out.on hb).below (Nat.le_refl _)))) ?_
  (try simp only [Act.put, List.getElem_toArray, List.getElem_cons_succ, List.getElem_cons_zero, List.setIfInBounds_toArray, List.set_cons_zero, List.set_cons_succ])
  refine wpLA_take (.bool false) (yG_val _ (by rfl) (fun w' _ => by (go_simp; try rfl))) ?_
  (try simp only [Act.put, List.getElem_toArray, List.getElem_cons_succ, List.getElem_cons_zero, List.setIfInBounds_toArray, List.set_cons_zero, List.set_cons_succ])
  refine wpLA_end ?_
  intro w2 hb
  have S2 := hid (S1.out.on hb)
  clear hb S1
  go_upto_region 3 with fail
  refine wpLA_start ?_
  refine wpLA_take (.slice A (xs.length) c) (yG_val _ (by rfl) (fun w' _ => by (go_simp; try rfl))) ?_
  (try simp only [Act.put, List.getElem_toArray, List.getElem_cons_succ, List.getElem_cons_zero, List.setIfInBounds_toArray, List.set_cons_zero, List.set_cons_succ])
  refine wpLA_take (.int .i64 ((xs.length : Nat))) (yG_val _ (by rfl) (fun w' _ => by (go_simp; try rfl))) ?_
  (try simp only [Act.put, List.getElem_toArray, List.getElem_cons_succ, List.getElem_cons_zero, List.setIfInBounds_toArray, List.set_cons_zero, List.set_cons_succ])
  refine wpLA_take (.bool false) (yG_val _ (by rfl) (fun w' _ => by (have h := HX.out; go_simp; try omega))) ?_
  (try simp only [Act.put, List.getElem_toArray, List.getElem_cons_succ, List.getElem_cons_zero, List.setIfInBounds_toArray, List.set_cons_zero, List.set_cons_succ])
  refine wpLA_take (.bool false) (yG_val _ (by rfl) (fun w' _ => by (go_simp; try rfl))) ?_
  (try simp only [Act.put, List.getElem_toArray, List.getElem_cons_succ, List.getElem_cons_zero, List.setIfInBounds_toArray, List.set_cons_zero, List.set_cons_succ])
  refine wpLA_take (.slice A' (ys.length) c') (yG_val _ (by rfl) (fun w' _ => by (go_simp; try rfl))) ?_
  (try simp only [Act.put, List.getElem_toArray, List.getElem_cons_succ, List.getElem_cons_zero, List.setIfInBounds_toArray, List.set_cons_zero, List.set_cons_succ])
  refine wpLA_take (.int .i64 ((ys.length : Nat))) (yG_val _ (by rfl) (fun w' _ => by (go_simp; try rfl))) ?_
  (try simp only [Act.put, List.getElem_toArray, List.getElem_cons_succ, List.getElem_cons_zero, List.setIfInBounds_toArray, List.set_cons_zero, List.set_cons_succ])
  refine wpLA_take (.bool false) (yG_val _ (by rfl) (fun w' _ => by (have h := HY.out; go_simp; try omega))) ?_
  (try simp only [Act.put, List.getElem_toArray, List.getElem_cons_succ, List.getElem_cons_zero, List.setIfInBounds_toArray, List.set_cons_zero, List.set_cons_succ])
  refine wpLA_take (.bool false) (yG_val _ (by rfl) (fun w' _ => by (go_simp; try rfl))) ?_
  (try simp only [Act.put, List.getElem_toArray, List.getElem_cons_succ, List.getElem_cons_zero, List.setIfInBounds_toArray, List.set_cons_zero, List.set_cons_succ])
  refine wpLA_take (.bool false) (yG_val _ (by rfl) (fun w' _ => by (go_simp; try rfl))) ?_
  (try simp only [Act.put, List.getElem_toArray, List.getElem_cons_succ, List.getElem_cons_zero, List.setIfInBounds_toArray, List.set_cons_zero, List.set_cons_succ])
  refine wpLA_take (.slice (some ⟨b0, o0, none⟩) 64 c'') (yG_val _ (by rfl) (fun w' _ => by (go_simp; try rfl))) ?_
  (try simp only [Act.put, List.getElem_toArray, List.getElem_cons_succ, List.getElem_cons_zero, List.setIfInBounds_toArray, List.set_cons_zero, List.set_cons_succ])
  refine wpLA_take (.int .i64 64) (yG_val _ (by rfl) (fun w' _ => by (go_simp; try rfl))) ?_
  (try simp only [Act.put, List.getElem_toArray, List.getElem_cons_succ, List.getElem_cons_zero, List.setIfInBounds_toArray, List.set_cons_zero, List.set_cons_succ])
  refine wpLA_take (.bool false) (yG_val _ (by rfl) (fun w' _ => by (go_simp; try rfl))) ?_
  (try simp only [Act.put, List.getElem_toArray, List.getElem_cons_succ, List.getElem_cons_zero, List.setIfInBounds_toArray, List.set_cons_zero, List.set_cons_succ])
  refine wpLA_take (.bool false) (yG_val _ (by rfl) (fun w' _ => by (go_simp; try rfl))) ?_
  (try simp only [Act.put, List.getElem_toArray, List.getElem_cons_succ, List.getElem_cons_zero, List.setIfInBounds_toArray, List.set_cons_zero, List.set_cons_succ])
  refine wpLA_end ?_
  intro w3 hb
  have S3 := hid (S2.out.on hb)
  clear hb S2
  go_upto_region 5 with fail
  refine wpLA_start ?_
  refine wpLA_take (.slice A (xs.length) c) (yG_val _ (by rfl) (fun w' _ => by (go_simp; try rfl))) ?_
  (try simp only [Act.put, List.getElem_toArray, List.getElem_cons_succ, List.getElem_cons_zero, List.setIfInBounds_toArray, List.set_cons_zero, List.set_cons_succ])
  refine wpLA_take (.slice A' (ys.length) c') (yG_val _ (by rfl) (fun w' _ => by (go_simp; try rfl))) ?_
  (try simp only [Act.put, List.getElem_toArray, List.getElem_cons_succ, List.getElem_cons_zero, List.setIfInBounds_toArray, List.set_cons_zero, List.set_cons_succ])
  refine wpLA_take (.slice (some ⟨b0, o0, none⟩) 64 c'') (yG_val _ (by rfl) (fun w' _ => by (go_simp; try rfl))) ?_
  (try simp only [Act.put, List.getElem_toArray, List.getElem_cons_succ, List.getElem_cons_zero, List.setIfInBounds_toArray, List.set_cons_zero, List.set_cons_succ])
  refine wpLA_take (.bool false) (yG_call (by rfl) (fun w' => by go_simp) (fun w' hb => KH.out _ _ _ _ _ _ w' (HG.out.below (S3.out.on hb).below (Nat.le_refl _)) (HS.out.on6 ((S3.out.on hb).below)) (HS'.out.on6 ((S3.out.on hb).below)) (HS''.out.on6 ((S3.out.on hb).below)))) ?_
  (try simp only [Act.put, List.getElem_toArray, List.getElem_cons_succ, List.getElem_cons_zero, List.setIfInBounds_toArray, List.set_cons_zero, List.set_cons_succ])
  refine wpLA_take (.bool false) (yG_val _ (by rfl) (fun w' _ => by (go_simp; try rfl))) ?_
  (try simp only [Act.put, List.getElem_toArray, List.getElem_cons_succ, List.getElem_cons_zero, List.setIfInBounds_toArray, List.set_cons_zero, List.set_cons_succ])
  refine wpLA_end ?_
  intro w4 hb
  have S4 := hid (S3.out.on hb)
  clear hb S3
  go_upto_region 6 with fail
  refine wpLA_start ?_
  refine wpLA_take (.slice (some ⟨b0, o0, none⟩) 64 c'') (yG_val _ (by rfl) (fun w' _ => by (go_simp; try rfl))) ?_
  (try simp only [Act.put, List.getElem_toArray, List.getElem_cons_succ, List.getElem_cons_zero, List.setIfInBounds_toArray, List.set_cons_zero, List.set_cons_succ])
  refine wpLA_take (.int .i64 64) (yG_val _ (by rfl) (fun w' _ => by (go_simp; try rfl))) ?_
  (try simp only [Act.put, List.getElem_toArray, List.getElem_cons_succ, List.getElem_cons_zero, List.setIfInBounds_toArray, List.set_cons_zero, List.set_cons_succ])
  refine wpLA_take (.bool false) (yG_val _ (by rfl) (fun w' _ => by (go_simp; try rfl))) ?_
  (try simp only [Act.put, List.getElem_toArray, List.getElem_cons_succ, List.getElem_cons_zero, List.setIfInBounds_toArray, List.set_cons_zero, List.set_cons_succ])
  refine wpLA_end ?_
  intro w5 hb
  have S5 := hid (S4.out.on hb)
  clear hb S4
  go_upto_region 8 with fail
  refine wpLA_start ?_
  refine wpLA_take (.slice (some ⟨b0, o0, none⟩) 64 c'') (yG_val _ (by rfl) (fun w' _ => by (go_simp; try rfl))) ?_
  (try simp only [Act.put, List.getElem_toArray, List.getElem_cons_succ, List.getElem_cons_zero, List.setIfInBounds_toArray, List.set_cons_zero, List.set_cons_succ])
  have HC6 : 64 ≤ c'' := by (have := (HS''.out.on6 S5.out.below).cap; rw [bvs_length, LZS.out] at this; exact this.1)
  refine wpLA_take (.slice (some ⟨b0, o0, none⟩) 32 c'') (yG_val _ (by rfl) (fun w' _ => by (have h1 : (64 : Int) ≤ ((c'' : Nat) : Int) := (by omega); have h2 : (32 : Int) ≤ ((c'' : Nat) : Int) := (by omega); clear HC6; go_simp; try omega; try rfl))) ?_
  (try simp only [Act.put, List.getElem_toArray, List.getElem_cons_succ, List.getElem_cons_zero, List.setIfInBounds_toArray, List.set_cons_zero, List.set_cons_succ])
  have S6 : Hid (St w w5 [] [((some ⟨b0, o0, none⟩), c'', bvs (zs.take 32))]) := hid (S5.out.more (sq_take (HS''.out.on6 S5.out.below) 32))
  clear HC6 S5
  refine wpLA_take (.tuple #[(.agg (vr)), (.bool true)]) (yG_call (by rfl) (fun w' => by go_simp) (fun w' hb => KR.out _ _ w' (S6.out.on hb).sq.1)) ?_
  (try simp only [Act.put, List.getElem_toArray, List.getElem_cons_succ, List.getElem_cons_zero, List.setIfInBounds_toArray, List.set_cons_zero, List.set_cons_succ])
  refine wpLA_take (.tuple #[(.agg (vr)), (.bool true)]) (yG_val _ (by rfl) (fun w' _ => by (go_simp; try rfl))) ?_
  (try simp only [Act.put, List.getElem_toArray, List.getElem_cons_succ, List.getElem_cons_zero, List.setIfInBounds_toArray, List.set_cons_zero, List.set_cons_succ])
  refine wpLA_take (.agg (vr)) (yG_val _ (by rfl) (fun w' _ => by (go_simp; try rfl))) ?_
  (try simp only [Act.put, List.getElem_toArray, List.getElem_cons_succ, List.getElem_cons_zero, List.setIfInBounds_toArray, List.set_cons_zero, List.set_cons_succ])
  refine wpLA_take (.bool true) (yG_val _ (by rfl) (fun w' _ => by (go_simp; try rfl))) ?_
  (try simp only [Act.put, List.getElem_toArray, List.getElem_cons_succ, List.getElem_cons_zero, List.setIfInBounds_toArray, List.set_cons_zero, List.set_cons_succ])
  refine wpLA_alloc (by rfl) rfl zeroP ?_
  intro p7 w7 hp hz hb
  have N7 := hid (S6.out.sq.far hp)
  have S7 : Hid (St w w7 [(p7, zP, PT)] [((some ⟨b0, o0, none⟩), c'', bvs (zs.take 32))]) := hid (S6.out.alloc hb hp hz)
  clear hp hz hb S6
  (try simp only [Act.put, List.getElem_toArray, List.getElem_cons_succ, List.getElem_cons_zero, List.setIfInBounds_toArray, List.set_cons_zero, List.set_cons_succ])
  refine wpLA_store rfl PT (.tmp 8) (.tmp 44) rfl p7 (vr) rfl rfl PT (zP) S7.out.cl.1 HVR.out.info (zP_is.size2 HVR.out) HVR.out.one ?_
  intro wx hb
  have S8 : Hid (St w (wx.setRow p7 (vr)) [(p7, vr, PT)] [((some ⟨b0, o0, none⟩), c'', bvs (zs.take 32))]) := hid ((S7.out.on hb).put 0 rfl N7.out)
  clear hb S7
  generalize wx.setRow p7 (vr) = w8 at S8 ⊢
  (try simp only [Act.put, List.getElem_toArray, List.getElem_cons_succ, List.getElem_cons_zero, List.setIfInBounds_toArray, List.set_cons_zero, List.set_cons_succ])
  refine wpLA_take (.bool true) (yG_val _ (by rfl) (fun w' _ => by (go_simp; try rfl))) ?_
  (try simp only [Act.put, List.getElem_toArray, List.getElem_cons_succ, List.getElem_cons_zero, List.setIfInBounds_toArray, List.set_cons_zero, List.set_cons_succ])
  refine wpLA_end ?_
  intro w9 hb
  have S9 := hid (S8.out.on hb)
  clear hb S8
  go_upto_region 9 with fail
  refine wpLA_start ?_
  refine wpLA_take (.slice A (xs.length) c) (yG_val _ (by rfl) (fun w' _ => by (go_simp; try rfl))) ?_
  (try simp only [Act.put, List.getElem_toArray, List.getElem_cons_succ, List.getElem_cons_zero, List.setIfInBounds_toArray, List.set_cons_zero, List.set_cons_succ])
  refine wpLA_take (.tuple #[(.agg (va)), (.bool true)]) (yG_call (by rfl) (fun w' => by go_simp) (fun w' hb => KA.out _ _ w' (HS.out.on6 ((S9.out.on hb).below)))) ?_
  (try simp only [Act.put, List.getElem_toArray, List.getElem_cons_succ, List.getElem_cons_zero, List.setIfInBounds_toArray, List.set_cons_zero, List.set_cons_succ])
  refine wpLA_take (.tuple #[(.agg (va)), (.bool true)]) (yG_val _ (by rfl) (fun w' _ => by (go_simp; try rfl))) ?_
  (try simp only [Act.put, List.getElem_toArray, List.getElem_cons_succ, List.getElem_cons_zero, List.setIfInBounds_toArray, List.set_cons_zero, List.set_cons_succ])
  refine wpLA_take (.agg (va)) (yG_val _ (by rfl) (fun w' _ => by (go_simp; try rfl))) ?_
  (try simp only [Act.put, List.getElem_toArray, List.getElem_cons_succ, List.getElem_cons_zero, List.setIfInBounds_toArray, List.set_cons_zero, List.set_cons_succ])
  refine wpLA_take (.bool true) (yG_val _ (by rfl) (fun w' _ => by (go_simp; try rfl))) ?_
  (try simp only [Act.put, List.getElem_toArray, List.getElem_cons_succ, List.getElem_cons_zero, List.setIfInBounds_toArray, List.set_cons_zero, List.set_cons_succ])
  refine wpLA_alloc (by rfl) rfl zeroP ?_
  intro p10 w10 hp hz hb
  have N10 := hid (S9.out.sq.far hp)
  have S10 : Hid (St w w10 [(p10, zP, PT), (p7, vr, PT)] [((some ⟨b0, o0, none⟩), c'', bvs (zs.take 32))]) := hid (S9.out.alloc hb hp hz)
  clear hp hz hb S9
  (try simp only [Act.put, List.getElem_toArray, List.getElem_cons_succ, List.getElem_cons_zero, List.setIfInBounds_toArray, List.set_cons_zero, List.set_cons_succ])
  refine wpLA_store rfl PT (.tmp 10) (.tmp 49) rfl p10 (va) rfl rfl PT (zP) S10.out.cl.1 HVA.out.info (zP_is.size2 HVA.out) HVA.out.one ?_
  intro wx hb
  have S11 : Hid (St w (wx.setRow p10 (va)) [(p10, va, PT), (p7, vr, PT)] [((some ⟨b0, o0, none⟩), c'', bvs (zs.take 32))]) := hid ((S10.out.on hb).put 0 rfl N10.out)
  clear hb S10
  generalize wx.setRow p10 (va) = w11 at S11 ⊢
  (try simp only [Act.put, List.getElem_toArray, List.getElem_cons_succ, List.getElem_cons_zero, List.setIfInBounds_toArray, List.set_cons_zero, List.set_cons_succ])
  refine wpLA_take (.bool true) (yG_val _ (by rfl) (fun w' _ => by (go_simp; try rfl))) ?_
  (try simp only [Act.put, List.getElem_toArray, List.getElem_cons_succ, List.getElem_cons_zero, List.setIfInBounds_toArray, List.set_cons_zero, List.set_cons_succ])
  refine wpLA_end ?_
  intro w12 hb
  have S12 := hid (S11.out.on hb)
  clear hb S11
  go_upto_region 10 with fail
  refine wpLA_start ?_
  refine wpLA_take (.slice (some ⟨b0, o0, none⟩) 64 c'') (yG_val _ (by rfl) (fun w' _ => by (go_simp; try rfl))) ?_
  (try simp only [Act.put, List.getElem_toArray, List.getElem_cons_succ, List.getElem_cons_zero, List.setIfInBounds_toArray, List.set_cons_zero, List.set_cons_succ])
  have HC13 : 64 ≤ c'' := by (have := (HS''.out.on6 S12.out.below).cap; rw [bvs_length, LZS.out] at this; exact this.1)
  refine wpLA_take (.slice (some ⟨b0, o0 + 32, none⟩) 32 (c'' - 32)) (yG_val _ (by rfl) (fun w' _ => by (have h1 : (64 : Int) ≤ ((c'' : Nat) : Int) := (by omega); have h2 : (32 : Int) ≤ ((c'' : Nat) : Int) := (by omega); clear HC13; go_simp; try omega; try rfl))) ?_
  (try simp only [Act.put, List.getElem_toArray, List.getElem_cons_succ, List.getElem_cons_zero, List.setIfInBounds_toArray, List.set_cons_zero, List.set_cons_succ])
  have S13 : Hid (St w w12 [(p10, va, PT), (p7, vr, PT)] [((some ⟨b0, o0 + 32, none⟩), (c'' - 32), bvs (zs.drop 32)), ((some ⟨b0, o0, none⟩), c'', bvs (zs.take 32))]) := hid (S12.out.more (sq_drop (HS''.out.on6 S12.out.below) 32 (by rw [LZS.out]; decide)))
  clear HC13 S12
  refine wpLA_big (n0) (by rfl) (fun w' => by go_simp) (fun w' hb => KO6.out _ _ w' (S13.out.on hb).sq.1) ?_
  intro A14 c14 w14 hb hs
  have S14 : Hid (St w w14 [(p10, va, PT), (p7, vr, PT)] [(A14, c14, ivs (dg (n0))), ((some ⟨b0, o0 + 32, none⟩), (c'' - 32), bvs (zs.drop 32)), ((some ⟨b0, o0, none⟩), c'', bvs (zs.take 32))]) := hid ((S13.out.on hb).more hs)
  clear hb hs S13
  (try simp only [Act.put, List.getElem_toArray, List.getElem_cons_succ, List.getElem_cons_zero, List.setIfInBounds_toArray, List.set_cons_zero, List.set_cons_succ])
  refine wpLA_take (.slice A14 ((dg (n0)).length) c14) (yG_val _ (by rfl) (fun w' _ => by (go_simp; try rfl))) ?_
  (try simp only [Act.put, List.getElem_toArray, List.getElem_cons_succ, List.getElem_cons_zero, List.setIfInBounds_toArray, List.set_cons_zero, List.set_cons_succ])
  refine wpLA_end ?_
  intro w15 hb
  have S15 := hid (S14.out.on hb)
  clear hb S14
  go_upto_region 11 with fail
  refine wpLA_start ?_
  refine wpLA_take (.bool true) (yG_val _ (by rfl) (fun w' _ => by (go_simp; try rfl))) ?_
  (try simp only [Act.put, List.getElem_toArray, List.getElem_cons_succ, List.getElem_cons_zero, List.setIfInBounds_toArray, List.set_cons_zero, List.set_cons_succ])
  refine wpLA_take (.bool false) (yG_val _ (by rfl) (fun w' _ => by (go_simp; try rfl))) ?_
  (try simp only [Act.put, List.getElem_toArray, List.getElem_cons_succ, List.getElem_cons_zero, List.setIfInBounds_toArray, List.set_cons_zero, List.set_cons_succ])
  refine wpLA_take (.bool false) (yG_val _ (by rfl) (fun w' _ => by (go_simp; try rfl))) ?_
  (try simp only [Act.put, List.getElem_toArray, List.getElem_cons_succ, List.getElem_cons_zero, List.setIfInBounds_toArray, List.set_cons_zero, List.set_cons_succ])
  refine wpLA_take (.bool true) (yG_val _ (by rfl) (fun w' _ => by (go_simp; try rfl))) ?_
  (try simp only [Act.put, List.getElem_toArray, List.getElem_cons_succ, List.getElem_cons_zero, List.setIfInBounds_toArray, List.set_cons_zero, List.set_cons_succ])
  refine wpLA_take (.bool false) (yG_val _ (by rfl) (fun w' _ => by (go_simp; try rfl))) ?_
  (try simp only [Act.put, List.getElem_toArray, List.getElem_cons_succ, List.getElem_cons_zero, List.setIfInBounds_toArray, List.set_cons_zero, List.set_cons_succ])
  refine wpLA_take (.bool false) (yG_val _ (by rfl) (fun w' _ => by (go_simp; try rfl))) ?_
  (try simp only [Act.put, List.getElem_toArray, List.getElem_cons_succ, List.getElem_cons_zero, List.setIfInBounds_toArray, List.set_cons_zero, List.set_cons_succ])
  refine wpLA_take (.bool false) (yG_val _ (by rfl) (fun w' _ => by (go_simp; try rfl))) ?_
  (try simp only [Act.put, List.getElem_toArray, List.getElem_cons_succ, List.getElem_cons_zero, List.setIfInBounds_toArray, List.set_cons_zero, List.set_cons_succ])
  refine wpLA_take (.slice A14 ((dg (n0)).length) c14) (yG_val _ (by rfl) (fun w' _ => by (go_simp; try rfl))) ?_
  (try simp only [Act.put, List.getElem_toArray, List.getElem_cons_succ, List.getElem_cons_zero, List.setIfInBounds_toArray, List.set_cons_zero, List.set_cons_succ])
  refine wpLA_big (ordL) (by rfl) (fun w' => by go_simp) (fun w' hb => Order_any w') ?_
  intro A16 c16 w16 hb hs
  have S16 : Hid (St w w16 [(p10, va, PT), (p7, vr, PT)] [(A16, c16, ivs (dg (ordL))), (A14, c14, ivs (dg (n0))), ((some ⟨b0, o0 + 32, none⟩), (c'' - 32), bvs (zs.drop 32)), ((some ⟨b0, o0, none⟩), c'', bvs (zs.take 32))]) := hid ((S15.out.on hb).more hs)
  clear hb hs S15
  (try simp only [Act.put, List.getElem_toArray, List.getElem_cons_succ, List.getElem_cons_zero, List.setIfInBounds_toArray, List.set_cons_zero, List.set_cons_succ])
  refine wpLA_take (.bool false) (yG_call (by rfl) (fun w' => by go_simp) (fun w' hb => KLE.out _ _ _ _ w' (S16.out.on hb).sq.2.1 (S16.out.on hb).sq.1)) ?_
  (try simp only [Act.put, List.getElem_toArray, List.getElem_cons_succ, List.getElem_cons_zero, List.setIfInBounds_toArray, List.set_cons_zero, List.set_cons_succ])
  refine wpLA_take (.bool true) (yG_val _ (by rfl) (fun w' _ => by (go_simp; try rfl))) ?_
  (try simp only [Act.put, List.getElem_toArray, List.getElem_cons_succ, List.getElem_cons_zero, List.setIfInBounds_toArray, List.set_cons_zero, List.set_cons_succ])
  refine wpLA_take (.bool true) (yG_val _ (by rfl) (fun w' _ => by (go_simp; try rfl))) ?_
  (try simp only [Act.put, List.getElem_toArray, List.getElem_cons_succ, List.getElem_cons_zero, List.setIfInBounds_toArray, List.set_cons_zero, List.set_cons_succ])
  refine wpLA_end ?_
  intro w17 hb
  have S17 := hid (S16.out.on hb)
  clear hb S16
  go_upto_region 12 with fail
  refine wpLA_start ?_
  refine wpLA_take (.bool false) (yG_val _ (by rfl) (fun w' _ => by (go_simp; try rfl))) ?_
  (try simp only [Act.put, List.getElem_toArray, List.getElem_cons_succ, List.getElem_cons_zero, List.setIfInBounds_toArray, List.set_cons_zero, List.set_cons_succ])
  refine wpLA_take (.bool true) (yG_val _ (by rfl) (fun w' _ => by (go_simp; try rfl))) ?_
  (try simp only [Act.put, List.getElem_toArray, List.getElem_cons_succ, List.getElem_cons_zero, List.setIfInBounds_toArray, List.set_cons_zero, List.set_cons_succ])
  refine wpLA_take (.bool true) (yG_val _ (by rfl) (fun w' _ => by (go_simp; try rfl))) ?_
  (try simp only [Act.put, List.getElem_toArray, List.getElem_cons_succ, List.getElem_cons_zero, List.setIfInBounds_toArray, List.set_cons_zero, List.set_cons_succ])
  refine wpLA_end ?_
  intro w18 hb
  have S18 := hid (S17.out.on hb)
  clear hb S17
  go_wp2_with fail
  go_ret
  exact ⟨rfl, S18.out.below⟩
set_option maxRecDepth 100000 in
set_option maxHeartbeats 4000000 in
theorem holds_all (A : Option Addr) (xs : List UInt8) (c : Nat) (A' : Option Addr) (ys : List UInt8) (c' : Nat) (A'' : Option Addr) (zs : List UInt8) (c'' : Nat) (w : World) (hG : GlobL w) (hS : Sq w w.heap.size A c (bvs xs)) (hS' : Sq w w.heap.size A' c' (bvs ys)) (hS'' : Sq w w.heap.size A'' c'' (bvs zs)) (hx : xs.length ≤ 60) (hy : ys.length ≤ 200) (h64 : zs.length = 64) (hr : (ptOf (zs.take 32)).isSome = true) (ha : (ptOf xs).isSome = true) (hl : leN (zs.drop 32) < ordL) :
    Calls Tryz.prog 3 #[.slice A xs.length c, .slice A' ys.length c', .slice A'' 64 c''] w fun e w' => e = .returned (.bool true) ∧ Below w.heap.size w w' := by
  obtain ⟨b0, o0, rfl, -⟩ := hS''.form (by rw [bvs_length]; omega)
  have HS := hid hS; have HS' := hid hS'; have HS'' := hid hS''; have HG := hid hG; have LZS := hid h64
  have l32 : (zs.take 32).length = 32 := by rw [List.length_take, h64]; rfl
  have d32 : (zs.drop 32).length = 32 := by rw [List.length_drop, h64]
  obtain ⟨vr, hvr, hkr⟩ := CvOf (zs.take 32) (by omega)
  obtain ⟨va, hva, KA⟩ := CvOf xs (by omega)
  rw [l32] at hkr
  have KR := hkr
  have HVR := hid hvr; have HVA := hid hva
  obtain ⟨n0, hn0⟩ : ∃ n, n = leN (zs.drop 32) := ⟨_, rfl⟩
  have KO6 : Hid (∀ (A : Option Addr) (c : Nat) (W : World), Sq W W.heap.size A c (bvs (zs.drop 32)) → Calls Tryz.prog 7 #[.slice A 32 c] W (BigR W n0)) := hid fun A c W h => by
    have := Of6_any A (zs.drop 32) c W h (by omega)
    rw [d32, ← hn0] at this; exact this
  have hn0l : n0 < 256 ^ 32 := by have := leN_lt (zs.drop 32); rw [d32, ← hn0] at this; exact this
  have hdl : (dg n0).length ≤ 1099511627776 := by have := (dg_length_le n0 40).2 (Nat.lt_trans hn0l (by decide +kernel)); omega
  have KLE0 := fun A c A2 c2 (W : World) (h : Sq W W.heap.size A c (ivs (dg n0))) (h' : Sq W W.heap.size A2 c2 (ivs (dg ordL))) => calls_drew (Less_any n0 ordL A A2 c c2 _ _ W h h' hdl)
  rw [hr] at KR
  rw [ha] at KA
  have KLE : Hid (∀ (A : Option Addr) (c : Nat) (A2 : Option Addr) (c2 : Nat) (W : World), Sq W W.heap.size A c (ivs (dg n0)) → Sq W W.heap.size A2 c2 (ivs (dg ordL)) → Calls Tryz.prog 8 #[.slice A (dg n0).length c, .slice A2 (dg ordL).length c2] W fun e w' => e = .returned (.bool true) ∧ Below W.heap.size W w') := hid fun A c A2 c2 W h h' => by
    have := KLE0 A c A2 c2 W h h'
    rw [decide_eq_true (by rw [hn0]; exact hl)] at this; exact this
  have hex : exB (zs.drop 32) = true := by unfold exB; exact decide_eq_true ⟨d32, hl⟩
  obtain ⟨s1, hs1⟩ : ∃ s : SF, s = ofS (zs.drop 32) := ⟨_, rfl⟩
  obtain ⟨s2, hs2⟩ : ∃ s : SF, s = kS (zs.take 32) xs ys := ⟨_, rfl⟩
  have hs1v : s1.val = exN (zs.drop 32) := by
    unfold exN
    rw [if_pos hex, hs1]
    show leN ((zs.drop 32).take 64) % ordL = _
    rw [List.take_of_length_le (by omega), Nat.mod_eq_of_lt hl]
  obtain ⟨n1, hn1⟩ : ∃ n, n = s2.val := ⟨_, rfl⟩
  have l1 : n1 < ordL := by rw [hn1]; exact SF_lt s2
  obtain ⟨g, hg, KG⟩ := CvBase
  obtain ⟨g1, hg1, KM1⟩ := CvMul hg s1
  obtain ⟨g2, hg2, KM2⟩ := CvMul hva s2
  obtain ⟨g3, hg3, KAD⟩ := CvAdd hvr hg2
  obtain ⟨hv, hhv⟩ : ∃ b, b = holdsB xs ys zs := ⟨_, rfl⟩
  have hsm : decide (Pt.times s1.val Gb = (ptO (zs.take 32)).add (Pt.times s2.val (ptO xs))) = hv := by
    rw [hhv, hs1v, hs2]
    unfold holdsB
    rw [hr, ha, hex, h64]
    simp
  have KSM := CvSame hg1 hg3
  rw [hsm] at KSM
  have HVG := hid hg; have HV1 := hid hg1; have HV2 := hid hg2; have HV3 := hid hg3
  have KH : Hid (∀ (A : Option Addr) (c : Nat) (A2 : Option Addr) (c2 : Nat) (A3 : Option Addr) (c3 : Nat) (W : World), GlobL W → Sq W W.heap.size A c (bvs xs) → Sq W W.heap.size A2 c2 (bvs ys) → Sq W W.heap.size A3 c3 (bvs zs) → Calls Tryz.prog 5 #[.slice A xs.length c, .slice A2 ys.length c2, .slice A3 64 c3] W fun e w' => e = .returned (.bool hv) ∧ Below W.heap.size W w') := hid fun A c A2 c2 A3 c3 W hG h h' h'' => by
    have := SgHolds A xs c A2 ys c2 A3 zs c3 W hG h h' h'' (by omega) (by omega) (by omega)
    rw [← hhv, h64] at this; exact this
  have KD : Hid (∀ (A : Option Addr) (c : Nat) (A2 : Option Addr) (c2 : Nat) (A3 : Option Addr) (c3 : Nat) (W : World), Sq W W.heap.size A c (bvs (zs.take 32)) → Sq W W.heap.size A2 c2 (bvs xs) → Sq W W.heap.size A3 c3 (bvs ys) → Calls Tryz.prog 10 #[.slice A 32 c, .slice A2 xs.length c2, .slice A3 ys.length c3] W (BigR W n1)) := hid fun A c A2 c2 A3 c3 W h h' h'' => by
    have := Digest10_any A (zs.take 32) c A2 xs c2 A3 ys c3 W h h' h'' (by omega)
    rw [List.nil_append, l32] at this
    rw [hn1, hs2]; exact this
  have KS1 : Hid (∀ (A : Option Addr) (c : Nat) (W : World), Sq W W.heap.size A c (bvs (zs.drop 32)) → Calls Tryz.prog 13 #[.slice A 32 c] W fun e w' => e = .returned (.agg (sF s1)) ∧ Below W.heap.size W w') := by
    have := scOf (zs.drop 32) (by omega)
    rw [d32, ← hs1] at this; exact this
  have KS2 : Hid (∀ (A : Option Addr) (c : Nat) (W : World), Sq W W.heap.size A c (bvs (leB 32 n1)) → Calls Tryz.prog 13 #[.slice A (leB 32 n1).length c] W fun e w' => e = .returned (.agg (sF s2)) ∧ Below W.heap.size W w') := by
    have := scOf (leB 32 n1) (by rw [leB_length]; decide)
    rw [hn1, ofS_bytes] at this
    rw [hn1]; exact this
  have KB : Hid (∀ (A : Option Addr) (c : Nat) (W : World), Sq W W.heap.size A c (ivs (dg n1)) → Calls Tryz.prog 15 #[.slice A (dg n1).length c, .int .i64 32] W fun e w' => ∃ v, e = .returned v ∧ OwnB w' W.heap.size v (leB 32 n1) ∧ Below W.heap.size W w') := hid fun A c W h => Bytes6_any n1 32 A c W h (Nat.lt_trans l1 (by decide +kernel)) (by decide)
  have HX := hid (show ¬ (60 : Int) < (xs.length : Int) by omega)
  have HY := hid (show ¬ (200 : Int) < (ys.length : Int) by omega)
  clear hG hS hS' hS'' hx hy h64 l32 d32 hvr hva hkr hn0 hn0l hdl KLE0 hr ha hl hex hs1 hs2 hs1v hn1 l1 hg hg1 hg2 hg3 hhv hsm
  go_enter Tryz.func3, Tryz.ntmps3
  have S0 : Hid (St w w [] []) := hid (St.start w)
  go_upto_region 0 with fail
  refine wpLA_start ?_
  refine wpLA_take (.bool false) (yG_val _ (by rfl) (fun w' _ => by (go_simp; try rfl))) ?_
  (try simp only [Act.put, List.getElem_toArray, List.getElem_cons_succ, List.getElem_cons_zero, List.setIfInBounds_toArray, List.set_cons_zero, List.set_cons_succ])
  refine wpLA_end ?_
  intro w1 hb
  have S1 := hid (S0.out.on hb)
  clear hb S0
  go_upto_region 1 with fail
  refine wpLA_start ?_
  refine wpLA_take (.bool true) (yG_call (by rfl) (fun w' => by go_simp) (fun w' hb => alive10_any w' (HG.out.below (S1.out.on hb).below (Nat.le_refl _)))) ?_
  (try simp only [Act.put, List.getElem_toArray, List.getElem_cons_succ, List.getElem_cons_zero, List.setIfInBounds_toArray, List.set_cons_zero, List.set_cons_succ])
  refine wpLA_take (.bool false) (yG_val _ (by rfl) (fun w' _ => by (go_simp; try rfl))) ?_
  (try simp only [Act.put, List.getElem_toArray, List.getElem_cons_succ, List.getElem_cons_zero, List.setIfInBounds_toArray, List.set_cons_zero, List.set_cons_succ])
  refine wpLA_end ?_
  intro w2 hb
  have S2 := hid (S1.out.on hb)
  clear hb S1
  go_upto_region 3 with fail
  refine wpLA_start ?_
  refine wpLA_take (.slice A (xs.length) c) (yG_val _ (by rfl) (fun w' _ => by (go_simp; try rfl))) ?_
  (try simp only [Act.put, List.getElem_toArray, List.getElem_cons_succ, List.getElem_cons_zero, List.setIfInBounds_toArray, List.set_cons_zero, List.set_cons_succ])
  refine wpLA_take (.int .i64 ((xs.length : Nat))) (yG_val _ (by rfl) (fun w' _ => by (go_simp; try rfl))) ?_
  (try simp only [Act.put, List.getElem_toArray, List.getElem_cons_succ, List.getElem_cons_zero, List.setIfInBounds_toArray, List.set_cons_zero, List.set_cons_succ])
  refine wpLA_take (.bool false) (yG_val _ (by rfl) (fun w' _ => by (have h := HX.out; go_simp; try omega))) ?_
  (try simp only [Act.put, List.getElem_toArray, List.getElem_cons_succ, List.getElem_cons_zero, List.setIfInBounds_toArray, List.set_cons_zero, List.set_cons_succ])
  refine wpLA_take (.bool false) (yG_val _ (by rfl) (fun w' _ => by (go_simp; try rfl))) ?_
  (try simp only [Act.put, List.getElem_toArray, List.getElem_cons_succ, List.getElem_cons_zero, List.setIfInBounds_toArray, List.set_cons_zero, List.set_cons_succ])
  refine wpLA_take (.slice A' (ys.length) c') (yG_val _ (by rfl) (fun w' _ => by (go_simp; try rfl))) ?_
  (try simp only [Act.put, List.getElem_toArray, List.getElem_cons_succ, List.getElem_cons_zero, List.setIfInBounds_toArray, List.set_cons_zero, List.set_cons_succ])
  refine wpLA_take (.int .i64 ((ys.length : Nat))) (yG_val _ (by rfl) (fun w' _ => by (go_simp; try rfl))) ?_
  (try simp only [Act.put, List.getElem_toArray, List.getElem_cons_succ, List.getElem_cons_zero, List.setIfInBounds_toArray, List.set_cons_zero, List.set_cons_succ])
  refine wpLA_take (.bool false) (yG_val _ (by rfl) (fun w' _ => by (have h := HY.out; go_simp; try omega))) ?_
  (try simp only [Act.put, List.getElem_toArray, List.getElem_cons_succ, List.getElem_cons_zero, List.setIfInBounds_toArray, List.set_cons_zero, List.set_cons_succ])
  refine wpLA_take (.bool false) (yG_val _ (by rfl) (fun w' _ => by (go_simp; try rfl))) ?_
  (try simp only [Act.put, List.getElem_toArray, List.getElem_cons_succ, List.getElem_cons_zero, List.setIfInBounds_toArray, List.set_cons_zero, List.set_cons_succ])
  refine wpLA_take (.bool false) (yG_val _ (by rfl) (fun w' _ => by (go_simp; try rfl))) ?_
  (try simp only [Act.put, List.getElem_toArray, List.getElem_cons_succ, List.getElem_cons_zero, List.setIfInBounds_toArray, List.set_cons_zero, List.set_cons_succ])
  refine wpLA_take (.slice (some ⟨b0, o0, none⟩) 64 c'') (yG_val _ (by rfl) (fun w' _ => by (go_simp; try rfl))) ?_
  (try simp only [Act.put, List.getElem_toArray, List.getElem_cons_succ, List.getElem_cons_zero, List.setIfInBounds_toArray, List.set_cons_zero, List.set_cons_succ])
  refine wpLA_take (.int .i64 64) (yG_val _ (by rfl) (fun w' _ => by (go_simp; try rfl))) ?_
  (try simp only [Act.put, List.getElem_toArray, List.getElem_cons_succ, List.getElem_cons_zero, List.setIfInBounds_toArray, List.set_cons_zero, List.set_cons_succ])
  refine wpLA_take (.bool false) (yG_val _ (by rfl) (fun w' _ => by (go_simp; try rfl))) ?_
  (try simp only [Act.put, List.getElem_toArray, List.getElem_cons_succ, List.getElem_cons_zero, List.setIfInBounds_toArray, List.set_cons_zero, List.set_cons_succ])
  refine wpLA_take (.bool false) (yG_val _ (by rfl) (fun w' _ => by (go_simp; try rfl))) ?_
  (try simp only [Act.put, List.getElem_toArray, List.getElem_cons_succ, List.getElem_cons_zero, List.setIfInBounds_toArray, List.set_cons_zero, List.set_cons_succ])
  refine wpLA_end ?_
  intro w3 hb
  have S3 := hid (S2.out.on hb)
  clear hb S2
  go_upto_region 5 with fail
  refine wpLA_start ?_
  refine wpLA_take (.slice A (xs.length) c) (yG_val _ (by rfl) (fun w' _ => by (go_simp; try rfl))) ?_
  (try simp only [Act.put, List.getElem_toArray, List.getElem_cons_succ, List.getElem_cons_zero, List.setIfInBounds_toArray, List.set_cons_zero, List.set_cons_succ])
  refine wpLA_take (.slice A' (ys.length) c') (yG_val _ (by rfl) (fun w' _ => by (go_simp; try rfl))) ?_
  (try simp only [Act.put, List.getElem_toArray, List.getElem_cons_succ, List.getElem_cons_zero, List.setIfInBounds_toArray, List.set_cons_zero, List.set_cons_succ])
  refine wpLA_take (.slice (some ⟨b0, o0, none⟩) 64 c'') (yG_val _ (by rfl) (fun w' _ => by (go_simp; try rfl))) ?_
  (try simp only [Act.put, List.getElem_toArray, List.getElem_cons_succ, List.getElem_cons_zero, List.setIfInBounds_toArray, List.set_cons_zero, List.set_cons_succ])
  refine wpLA_take (.bool hv) (yG_call (by rfl) (fun w' => by go_simp) (fun w' hb => KH.out _ _ _ _ _ _ w' (HG.out.below (S3.out.on hb).below (Nat.le_refl _)) (HS.out.on6 ((S3.out.on hb).below)) (HS'.out.on6 ((S3.out.on hb).below)) (HS''.out.on6 ((S3.out.on hb).below)))) ?_
  (try simp only [Act.put, List.getElem_toArray, List.getElem_cons_succ, List.getElem_cons_zero, List.setIfInBounds_toArray, List.set_cons_zero, List.set_cons_succ])
  refine wpLA_take (.bool hv) (yG_val _ (by rfl) (fun w' _ => by (go_simp; try rfl))) ?_
  (try simp only [Act.put, List.getElem_toArray, List.getElem_cons_succ, List.getElem_cons_zero, List.setIfInBounds_toArray, List.set_cons_zero, List.set_cons_succ])
  refine wpLA_end ?_
  intro w4 hb
  have S4 := hid (S3.out.on hb)
  clear hb S3
  go_upto_region 6 with fail
  refine wpLA_start ?_
  refine wpLA_take (.slice (some ⟨b0, o0, none⟩) 64 c'') (yG_val _ (by rfl) (fun w' _ => by (go_simp; try rfl))) ?_
  (try simp only [Act.put, List.getElem_toArray, List.getElem_cons_succ, List.getElem_cons_zero, List.setIfInBounds_toArray, List.set_cons_zero, List.set_cons_succ])
  refine wpLA_take (.int .i64 64) (yG_val _ (by rfl) (fun w' _ => by (go_simp; try rfl))) ?_
  (try simp only [Act.put, List.getElem_toArray, List.getElem_cons_succ, List.getElem_cons_zero, List.setIfInBounds_toArray, List.set_cons_zero, List.set_cons_succ])
  refine wpLA_take (.bool false) (yG_val _ (by rfl) (fun w' _ => by (go_simp; try rfl))) ?_
  (try simp only [Act.put, List.getElem_toArray, List.getElem_cons_succ, List.getElem_cons_zero, List.setIfInBounds_toArray, List.set_cons_zero, List.set_cons_succ])
  refine wpLA_end ?_
  intro w5 hb
  have S5 := hid (S4.out.on hb)
  clear hb S4
  go_upto_region 8 with fail
  refine wpLA_start ?_
  refine wpLA_take (.slice (some ⟨b0, o0, none⟩) 64 c'') (yG_val _ (by rfl) (fun w' _ => by (go_simp; try rfl))) ?_
  (try simp only [Act.put, List.getElem_toArray, List.getElem_cons_succ, List.getElem_cons_zero, List.setIfInBounds_toArray, List.set_cons_zero, List.set_cons_succ])
  have HC6 : 64 ≤ c'' := by (have := (HS''.out.on6 S5.out.below).cap; rw [bvs_length, LZS.out] at this; exact this.1)
  refine wpLA_take (.slice (some ⟨b0, o0, none⟩) 32 c'') (yG_val _ (by rfl) (fun w' _ => by (have h1 : (64 : Int) ≤ ((c'' : Nat) : Int) := (by omega); have h2 : (32 : Int) ≤ ((c'' : Nat) : Int) := (by omega); clear HC6; go_simp; try omega; try rfl))) ?_
  (try simp only [Act.put, List.getElem_toArray, List.getElem_cons_succ, List.getElem_cons_zero, List.setIfInBounds_toArray, List.set_cons_zero, List.set_cons_succ])
  have S6 : Hid (St w w5 [] [((some ⟨b0, o0, none⟩), c'', bvs (zs.take 32))]) := hid (S5.out.more (sq_take (HS''.out.on6 S5.out.below) 32))
  clear HC6 S5
  refine wpLA_take (.tuple #[(.agg (vr)), (.bool true)]) (yG_call (by rfl) (fun w' => by go_simp) (fun w' hb => KR.out _ _ w' (S6.out.on hb).sq.1)) ?_
  (try simp only [Act.put, List.getElem_toArray, List.getElem_cons_succ, List.getElem_cons_zero, List.setIfInBounds_toArray, List.set_cons_zero, List.set_cons_succ])
  refine wpLA_take (.tuple #[(.agg (vr)), (.bool true)]) (yG_val _ (by rfl) (fun w' _ => by (go_simp; try rfl))) ?_
  (try simp only [Act.put, List.getElem_toArray, List.getElem_cons_succ, List.getElem_cons_zero, List.setIfInBounds_toArray, List.set_cons_zero, List.set_cons_succ])
  refine wpLA_take (.agg (vr)) (yG_val _ (by rfl) (fun w' _ => by (go_simp; try rfl))) ?_
  (try simp only [Act.put, List.getElem_toArray, List.getElem_cons_succ, List.getElem_cons_zero, List.setIfInBounds_toArray, List.set_cons_zero, List.set_cons_succ])
  refine wpLA_take (.bool true) (yG_val _ (by rfl) (fun w' _ => by (go_simp; try rfl))) ?_
  (try simp only [Act.put, List.getElem_toArray, List.getElem_cons_succ, List.getElem_cons_zero, List.setIfInBounds_toArray, List.set_cons_zero, List.set_cons_succ])
  refine wpLA_alloc (by rfl) rfl zeroP ?_
  intro p7 w7 hp hz hb
  have N7 := hid (S6.out.sq.far hp)
  have S7 : Hid (St w w7 [(p7, zP, PT)] [((some ⟨b0, o0, none⟩), c'', bvs (zs.take 32))]) := hid (S6.out.alloc hb hp hz)
  clear hp hz hb S6
  (try simp only [Act.put, List.getElem_toArray, List.getElem_cons_succ, List.getElem_cons_zero, List.setIfInBounds_toArray, List.set_cons_zero, List.set_cons_succ])
  refine wpLA_store rfl PT (.tmp 8) (.tmp 44) rfl p7 (vr) rfl rfl PT (zP) S7.out.cl.1 HVR.out.info (zP_is.size2 HVR.out) HVR.out.one ?_
  intro wx hb
  have S8 : Hid (St w (wx.setRow p7 (vr)) [(p7, vr, PT)] [((some ⟨b0, o0, none⟩), c'', bvs (zs.take 32))]) := hid ((S7.out.on hb).put 0 rfl N7.out)
  clear hb S7
  generalize wx.setRow p7 (vr) = w8 at S8 ⊢
  (try simp only [Act.put, List.getElem_toArray, List.getElem_cons_succ, List.getElem_cons_zero, List.setIfInBounds_toArray, List.set_cons_zero, List.set_cons_succ])
  refine wpLA_take (.bool true) (yG_val _ (by rfl) (fun w' _ => by (go_simp; try rfl))) ?_
  (try simp only [Act.put, List.getElem_toArray, List.getElem_cons_succ, List.getElem_cons_zero, List.setIfInBounds_toArray, List.set_cons_zero, List.set_cons_succ])
  refine wpLA_end ?_
  intro w9 hb
  have S9 := hid (S8.out.on hb)
  clear hb S8
  go_upto_region 9 with fail
  refine wpLA_start ?_
  refine wpLA_take (.slice A (xs.length) c) (yG_val _ (by rfl) (fun w' _ => by (go_simp; try rfl))) ?_
  (try simp only [Act.put, List.getElem_toArray, List.getElem_cons_succ, List.getElem_cons_zero, List.setIfInBounds_toArray, List.set_cons_zero, List.set_cons_succ])
  refine wpLA_take (.tuple #[(.agg (va)), (.bool true)]) (yG_call (by rfl) (fun w' => by go_simp) (fun w' hb => KA.out _ _ w' (HS.out.on6 ((S9.out.on hb).below)))) ?_
  (try simp only [Act.put, List.getElem_toArray, List.getElem_cons_succ, List.getElem_cons_zero, List.setIfInBounds_toArray, List.set_cons_zero, List.set_cons_succ])
  refine wpLA_take (.tuple #[(.agg (va)), (.bool true)]) (yG_val _ (by rfl) (fun w' _ => by (go_simp; try rfl))) ?_
  (try simp only [Act.put, List.getElem_toArray, List.getElem_cons_succ, List.getElem_cons_zero, List.setIfInBounds_toArray, List.set_cons_zero, List.set_cons_succ])
  refine wpLA_take (.agg (va)) (yG_val _ (by rfl) (fun w' _ => by (go_simp; try rfl))) ?_
  (try simp only [Act.put, List.getElem_toArray, List.getElem_cons_succ, List.getElem_cons_zero, List.setIfInBounds_toArray, List.set_cons_zero, List.set_cons_succ])
  refine wpLA_take (.bool true) (yG_val _ (by rfl) (fun w' _ => by (go_simp; try rfl))) ?_
  (try simp only [Act.put, List.getElem_toArray, List.getElem_cons_succ, List.getElem_cons_zero, List.setIfInBounds_toArray, List.set_cons_zero, List.set_cons_succ])
  refine wpLA_alloc (by rfl) rfl zeroP ?_
  intro p10 w10 hp hz hb
  have N10 := hid (S9.out.sq.far hp)
  have S10 : Hid (St w w10 [(p10, zP, PT), (p7, vr, PT)] [((some ⟨b0, o0, none⟩), c'', bvs (zs.take 32))]) := hid (S9.out.alloc hb hp hz)
  clear hp hz hb S9
  (try simp only [Act.put, List.getElem_toArray, List.getElem_cons_succ, List.getElem_cons_zero, List.setIfInBounds_toArray, List.set_cons_zero, List.set_cons_succ])
  refine wpLA_store rfl PT (.tmp 10) (.tmp 49) rfl p10 (va) rfl rfl PT (zP) S10.out.cl.1 HVA.out.info (zP_is.size2 HVA.out) HVA.out.one ?_
  intro wx hb
  have S11 : Hid (St w (wx.setRow p10 (va)) [(p10, va, PT), (p7, vr, PT)] [((some ⟨b0, o0, none⟩), c'', bvs (zs.take 32))]) := hid ((S10.out.on hb).put 0 rfl N10.out)
  clear hb S10
  generalize wx.setRow p10 (va) = w11 at S11 ⊢
  (try simp only [Act.put, List.getElem_toArray, List.getElem_cons_succ, List.getElem_cons_zero, List.setIfInBounds_toArray, List.set_cons_zero, List.set_cons_succ])
  refine wpLA_take (.bool true) (yG_val _ (by rfl) (fun w' _ => by (go_simp; try rfl))) ?_
  (try simp only [Act.put, List.getElem_toArray, List.getElem_cons_succ, List.getElem_cons_zero, List.setIfInBounds_toArray, List.set_cons_zero, List.set_cons_succ])
  refine wpLA_end ?_
  intro w12 hb
  have S12 := hid (S11.out.on hb)
  clear hb S11
  go_upto_region 10 with fail
  refine wpLA_start ?_
  refine wpLA_take (.slice (some ⟨b0, o0, none⟩) 64 c'') (yG_val _ (by rfl) (fun w' _ => by (go_simp; try rfl))) ?_
  (try simp only [Act.put, List.getElem_toArray, List.getElem_cons_succ, List.getElem_cons_zero, List.setIfInBounds_toArray, List.set_cons_zero, List.set_cons_succ])
  have HC13 : 64 ≤ c'' := by (have := (HS''.out.on6 S12.out.below).cap; rw [bvs_length, LZS.out] at this; exact this.1)
  refine wpLA_take (.slice (some ⟨b0, o0 + 32, none⟩) 32 (c'' - 32)) (yG_val _ (by rfl) (fun w' _ => by (have h1 : (64 : Int) ≤ ((c'' : Nat) : Int) := (by omega); have h2 : (32 : Int) ≤ ((c'' : Nat) : Int) := (by omega); clear HC13; go_simp; try omega; try rfl))) ?_
  (try simp only [Act.put, List.getElem_toArray, List.getElem_cons_succ, List.getElem_cons_zero, List.setIfInBounds_toArray, List.set_cons_zero, List.set_cons_succ])
  have S13 : Hid (St w w12 [(p10, va, PT), (p7, vr, PT)] [((some ⟨b0, o0 + 32, none⟩), (c'' - 32), bvs (zs.drop 32)), ((some ⟨b0, o0, none⟩), c'', bvs (zs.take 32))]) := hid (S12.out.more (sq_drop (HS''.out.on6 S12.out.below) 32 (by rw [LZS.out]; decide)))
  clear HC13 S12
  refine wpLA_big (n0) (by rfl) (fun w' => by go_simp) (fun w' hb => KO6.out _ _ w' (S13.out.on hb).sq.1) ?_
  intro A14 c14 w14 hb hs
  have S14 : Hid (St w w14 [(p10, va, PT), (p7, vr, PT)] [(A14, c14, ivs (dg (n0))), ((some ⟨b0, o0 + 32, none⟩), (c'' - 32), bvs (zs.drop 32)), ((some ⟨b0, o0, none⟩), c'', bvs (zs.take 32))]) := hid ((S13.out.on hb).more hs)
  clear hb hs S13
  (try simp only [Act.put, List.getElem_toArray, List.getElem_cons_succ, List.getElem_cons_zero, List.setIfInBounds_toArray, List.set_cons_zero, List.set_cons_succ])
  refine wpLA_take (.slice A14 ((dg (n0)).length) c14) (yG_val _ (by rfl) (fun w' _ => by (go_simp; try rfl))) ?_
  (try simp only [Act.put, List.getElem_toArray, List.getElem_cons_succ, List.getElem_cons_zero, List.setIfInBounds_toArray, List.set_cons_zero, List.set_cons_succ])
  refine wpLA_end ?_
  intro w15 hb
  have S15 := hid (S14.out.on hb)
  clear hb S14
  go_upto_region 11 with fail
  refine wpLA_start ?_
  refine wpLA_take (.bool true) (yG_val _ (by rfl) (fun w' _ => by (go_simp; try rfl))) ?_
  (try simp only [Act.put, List.getElem_toArray, List.getElem_cons_succ, List.getElem_cons_zero, List.setIfInBounds_toArray, List.set_cons_zero, List.set_cons_succ])
  refine wpLA_take (.bool false) (yG_val _ (by rfl) (fun w' _ => by (go_simp; try rfl))) ?_
  (try simp only [Act.put, List.getElem_toArray, List.getElem_cons_succ, List.getElem_cons_zero, List.setIfInBounds_toArray, List.set_cons_zero, List.set_cons_succ])
  refine wpLA_take (.bool false) (yG_val _ (by rfl) (fun w' _ => by (go_simp; try rfl))) ?_
  (try simp only [Act.put, List.getElem_toArray, List.getElem_cons_succ, List.getElem_cons_zero, List.setIfInBounds_toArray, List.set_cons_zero, List.set_cons_succ])
  refine wpLA_take (.bool true) (yG_val _ (by rfl) (fun w' _ => by (go_simp; try rfl))) ?_
  (try simp only [Act.put, List.getElem_toArray, List.getElem_cons_succ, List.getElem_cons_zero, List.setIfInBounds_toArray, List.set_cons_zero, List.set_cons_succ])
  refine wpLA_take (.bool false) (yG_val _ (by rfl) (fun w' _ => by (go_simp; try rfl))) ?_
  (try simp only [Act.put, List.getElem_toArray, List.getElem_cons_succ, List.getElem_cons_zero, List.setIfInBounds_toArray, List.set_cons_zero, List.set_cons_succ])
  refine wpLA_take (.bool false) (yG_val _ (by rfl) (fun w' _ => by (go_simp; try rfl))) ?_
  (try simp only [Act.put, List.getElem_toArray, List.getElem_cons_succ, List.getElem_cons_zero, List.setIfInBounds_toArray, List.set_cons_zero, List.set_cons_succ])
  refine wpLA_take (.bool false) (yG_val _ (by rfl) (fun w' _ => by (go_simp; try rfl))) ?_
  (try simp only [Act.put, List.getElem_toArray, List.getElem_cons_succ, List.getElem_cons_zero, List.setIfInBounds_toArray, List.set_cons_zero, List.set_cons_succ])
  refine wpLA_take (.slice A14 ((dg (n0)).length) c14) (yG_val _ (by rfl) (fun w' _ => by (go_simp; try rfl))) ?_
  (try simp only [Act.put, List.getElem_toArray, List.getElem_cons_succ, List.getElem_cons_zero, List.setIfInBounds_toArray, List.set_cons_zero, List.set_cons_succ])
  refine wpLA_big (ordL) (by rfl) (fun w' => by go_simp) (fun w' hb => Order_any w') ?_
  intro A16 c16 w16 hb hs
  have S16 : Hid (St w w16 [(p10, va, PT), (p7, vr, PT)] [(A16, c16, ivs (dg (ordL))), (A14, c14, ivs (dg (n0))), ((some ⟨b0, o0 + 32, none⟩), (c'' - 32), bvs (zs.drop 32)), ((some ⟨b0, o0, none⟩), c'', bvs (zs.take 32))]) := hid ((S15.out.on hb).more hs)
  clear hb hs S15
  (try simp only [Act.put, List.getElem_toArray, List.getElem_cons_succ, List.getElem_cons_zero, List.setIfInBounds_toArray, List.set_cons_zero, List.set_cons_succ])
  refine wpLA_take (.bool true) (yG_call (by rfl) (fun w' => by go_simp) (fun w' hb => KLE.out _ _ _ _ w' (S16.out.on hb).sq.2.1 (S16.out.on hb).sq.1)) ?_
  (try simp only [Act.put, List.getElem_toArray, List.getElem_cons_succ, List.getElem_cons_zero, List.setIfInBounds_toArray, List.set_cons_zero, List.set_cons_succ])
  refine wpLA_take (.bool false) (yG_val _ (by rfl) (fun w' _ => by (go_simp; try rfl))) ?_
  (try simp only [Act.put, List.getElem_toArray, List.getElem_cons_succ, List.getElem_cons_zero, List.setIfInBounds_toArray, List.set_cons_zero, List.set_cons_succ])
  refine wpLA_take (.bool false) (yG_val _ (by rfl) (fun w' _ => by (go_simp; try rfl))) ?_
  (try simp only [Act.put, List.getElem_toArray, List.getElem_cons_succ, List.getElem_cons_zero, List.setIfInBounds_toArray, List.set_cons_zero, List.set_cons_succ])
  refine wpLA_end ?_
  intro w17 hb
  have S17 := hid (S16.out.on hb)
  clear hb S16
  go_upto_region 13 with fail
  refine wpLA_start ?_
  refine wpLA_take (.slice (some ⟨b0, o0, none⟩) 64 c'') (yG_val _ (by rfl) (fun w' _ => by (go_simp; try rfl))) ?_
  (try simp only [Act.put, List.getElem_toArray, List.getElem_cons_succ, List.getElem_cons_zero, List.setIfInBounds_toArray, List.set_cons_zero, List.set_cons_succ])
  have HC18 : 64 ≤ c'' := by (have := (HS''.out.on6 S17.out.below).cap; rw [bvs_length, LZS.out] at this; exact this.1)
  refine wpLA_take (.slice (some ⟨b0, o0, none⟩) 32 c'') (yG_val _ (by rfl) (fun w' _ => by (have h1 : (64 : Int) ≤ ((c'' : Nat) : Int) := (by omega); have h2 : (32 : Int) ≤ ((c'' : Nat) : Int) := (by omega); clear HC18; go_simp; try omega; try rfl))) ?_
  (try simp only [Act.put, List.getElem_toArray, List.getElem_cons_succ, List.getElem_cons_zero, List.setIfInBounds_toArray, List.set_cons_zero, List.set_cons_succ])
  have S18 : Hid (St w w17 [(p10, va, PT), (p7, vr, PT)] [((some ⟨b0, o0, none⟩), c'', bvs (zs.take 32)), (A16, c16, ivs (dg (ordL))), (A14, c14, ivs (dg (n0))), ((some ⟨b0, o0 + 32, none⟩), (c'' - 32), bvs (zs.drop 32)), ((some ⟨b0, o0, none⟩), c'', bvs (zs.take 32))]) := hid (S17.out.more (sq_take (HS''.out.on6 S17.out.below) 32))
  clear HC18 S17
  refine wpLA_take (.slice A (xs.length) c) (yG_val _ (by rfl) (fun w' _ => by (go_simp; try rfl))) ?_
  (try simp only [Act.put, List.getElem_toArray, List.getElem_cons_succ, List.getElem_cons_zero, List.setIfInBounds_toArray, List.set_cons_zero, List.set_cons_succ])
  refine wpLA_take (.slice A' (ys.length) c') (yG_val _ (by rfl) (fun w' _ => by (go_simp; try rfl))) ?_
  (try simp only [Act.put, List.getElem_toArray, List.getElem_cons_succ, List.getElem_cons_zero, List.setIfInBounds_toArray, List.set_cons_zero, List.set_cons_succ])
  refine wpLA_big (n1) (by rfl) (fun w' => by go_simp) (fun w' hb => KD.out _ _ _ _ _ _ w' (S18.out.on hb).sq.1 (HS.out.on6 ((S18.out.on hb).below)) (HS'.out.on6 ((S18.out.on hb).below))) ?_
  intro A19 c19 w19 hb hs
  have S19 : Hid (St w w19 [(p10, va, PT), (p7, vr, PT)] [(A19, c19, ivs (dg (n1))), ((some ⟨b0, o0, none⟩), c'', bvs (zs.take 32)), (A16, c16, ivs (dg (ordL))), (A14, c14, ivs (dg (n0))), ((some ⟨b0, o0 + 32, none⟩), (c'' - 32), bvs (zs.drop 32)), ((some ⟨b0, o0, none⟩), c'', bvs (zs.take 32))]) := hid ((S18.out.on hb).more hs)
  clear hb hs S18
  (try simp only [Act.put, List.getElem_toArray, List.getElem_cons_succ, List.getElem_cons_zero, List.setIfInBounds_toArray, List.set_cons_zero, List.set_cons_succ])
  refine wpLA_take (.slice A19 ((dg (n1)).length) c19) (yG_val _ (by rfl) (fun w' _ => by (go_simp; try rfl))) ?_
  (try simp only [Act.put, List.getElem_toArray, List.getElem_cons_succ, List.getElem_cons_zero, List.setIfInBounds_toArray, List.set_cons_zero, List.set_cons_succ])
  refine wpLA_end ?_
  intro w20 hb
  have S20 := hid (S19.out.on hb)
  clear hb S19
  go_upto_region 14 with fail
  refine wp_region_grA 6 (by kernel_rfl) (by decide) ?_
  refine wpGrA_take (i := 0) (.agg (g)) rfl (by kernel_rfl) (by kernel_rfl) (fun _ _ _ h => h) (yG_call (by rfl) (fun w' => by go_simp) (fun w' hb => KG.out w')) ?_
  (try simp only [Act.put, List.getElem_toArray, List.getElem_cons_succ, List.getElem_cons_zero, List.setIfInBounds_toArray, List.set_cons_zero, List.set_cons_succ])
  refine wpGrA_take (i := 1) (.slice (some ⟨b0, o0, none⟩) 64 c'') rfl (by kernel_rfl) (by kernel_rfl) (fun _ _ _ h => h) (yG_val _ (by rfl) (fun w' _ => by (go_simp; try rfl))) ?_
  (try simp only [Act.put, List.getElem_toArray, List.getElem_cons_succ, List.getElem_cons_zero, List.setIfInBounds_toArray, List.set_cons_zero, List.set_cons_succ])
  have HC21 : 64 ≤ c'' := by (have := (HS''.out.on6 S20.out.below).cap; rw [bvs_length, LZS.out] at this; exact this.1)
  refine wpGrA_take (i := 2) (.slice (some ⟨b0, o0 + 32, none⟩) 32 (c'' - 32)) rfl (by kernel_rfl) (by kernel_rfl) (fun _ _ _ h => h) (yG_val _ (by rfl) (fun w' _ => by (have h1 : (64 : Int) ≤ ((c'' : Nat) : Int) := (by omega); have h2 : (32 : Int) ≤ ((c'' : Nat) : Int) := (by omega); clear HC21; go_simp; try omega; try rfl))) ?_
  (try simp only [Act.put, List.getElem_toArray, List.getElem_cons_succ, List.getElem_cons_zero, List.setIfInBounds_toArray, List.set_cons_zero, List.set_cons_succ])
  have S21 : Hid (St w w20 [(p10, va, PT), (p7, vr, PT)] [((some ⟨b0, o0 + 32, none⟩), (c'' - 32), bvs (zs.drop 32)), (A19, c19, ivs (dg (n1))), ((some ⟨b0, o0, none⟩), c'', bvs (zs.take 32)), (A16, c16, ivs (dg (ordL))), (A14, c14, ivs (dg (n0))), ((some ⟨b0, o0 + 32, none⟩), (c'' - 32), bvs (zs.drop 32)), ((some ⟨b0, o0, none⟩), c'', bvs (zs.take 32))]) := hid (S20.out.more (sq_drop (HS''.out.on6 S20.out.below) 32 (by rw [LZS.out]; decide)))
  clear HC21 S20
  refine wpGrA_take (i := 3) (.agg (sF s1)) rfl (by kernel_rfl) (by kernel_rfl) (fun _ _ _ h => h) (yG_call (by rfl) (fun w' => by go_simp) (fun w' hb => KS1.out _ _ w' (S21.out.on hb).sq.1)) ?_
  (try simp only [Act.put, List.getElem_toArray, List.getElem_cons_succ, List.getElem_cons_zero, List.setIfInBounds_toArray, List.set_cons_zero, List.set_cons_succ])
  refine wpGrA_take (i := 4) (.agg (g1)) rfl (by kernel_rfl) (by kernel_rfl) (fun _ _ _ h => h) (yG_call (by rfl) (fun w' => by go_simp) (fun w' hb => KM1.out w')) ?_
  (try simp only [Act.put, List.getElem_toArray, List.getElem_cons_succ, List.getElem_cons_zero, List.setIfInBounds_toArray, List.set_cons_zero, List.set_cons_succ])
  refine wpGrA_alloc (i := 5) rfl rfl rfl zeroP (by kernel_rfl) ?_
  intro p14 w140 hp hz hb
  have N14 := hid (S21.out.sq.far hp)
  have S140 : Hid (St w w140 [(p14, zP, PT), (p10, va, PT), (p7, vr, PT)] [((some ⟨b0, o0 + 32, none⟩), (c'' - 32), bvs (zs.drop 32)), (A19, c19, ivs (dg (n1))), ((some ⟨b0, o0, none⟩), c'', bvs (zs.take 32)), (A16, c16, ivs (dg (ordL))), (A14, c14, ivs (dg (n0))), ((some ⟨b0, o0 + 32, none⟩), (c'' - 32), bvs (zs.drop 32)), ((some ⟨b0, o0, none⟩), c'', bvs (zs.take 32))]) := hid (S21.out.alloc hb hp hz)
  clear hp hz hb S21
  (try simp only [Act.put, List.getElem_toArray, List.getElem_cons_succ, List.getElem_cons_zero, List.setIfInBounds_toArray, List.set_cons_zero, List.set_cons_succ])
  refine wpLA_here ?_
  refine wpLA_store rfl PT (.tmp 14) (.tmp 77) rfl p14 (g1) rfl rfl PT (zP) S140.out.cl.1 HV1.out.info (zP_is.size2 HV1.out) HV1.out.one ?_
  intro wx hb
  have S22 : Hid (St w (wx.setRow p14 (g1)) [(p14, g1, PT), (p10, va, PT), (p7, vr, PT)] [((some ⟨b0, o0 + 32, none⟩), (c'' - 32), bvs (zs.drop 32)), (A19, c19, ivs (dg (n1))), ((some ⟨b0, o0, none⟩), c'', bvs (zs.take 32)), (A16, c16, ivs (dg (ordL))), (A14, c14, ivs (dg (n0))), ((some ⟨b0, o0 + 32, none⟩), (c'' - 32), bvs (zs.drop 32)), ((some ⟨b0, o0, none⟩), c'', bvs (zs.take 32))]) := hid ((S140.out.on hb).put 0 rfl N14.out)
  clear hb S140
  generalize wx.setRow p14 (g1) = w22 at S22 ⊢
  (try simp only [Act.put, List.getElem_toArray, List.getElem_cons_succ, List.getElem_cons_zero, List.setIfInBounds_toArray, List.set_cons_zero, List.set_cons_succ])
  refine wpLA_end ?_
  intro w141 hb
  have S141 := hid (S22.out.on hb)
  clear hb S22
  go_upto_region 15 with fail
  refine wp_region_grA 8 (by kernel_rfl) (by decide) ?_
  refine wpGrA_take (i := 0) (.agg (vr)) rfl (by kernel_rfl) (by kernel_rfl) (fun _ _ _ h => h) (yG_part (by rfl) PT (.tmp 8) rfl p7 0 rfl PT (vr) (vr) (0, 0) _ S141.out.cl.2.2.1 HVR.out.all Tryz.underlying29 rfl HVR.out.info) ?_
  (try simp only [Act.put, List.getElem_toArray, List.getElem_cons_succ, List.getElem_cons_zero, List.setIfInBounds_toArray, List.set_cons_zero, List.set_cons_succ])
  refine wpGrA_take (i := 1) (.agg (va)) rfl (by kernel_rfl) (by kernel_rfl) (fun _ _ _ h => h) (yG_part (by rfl) PT (.tmp 10) rfl p10 0 rfl PT (va) (va) (0, 0) _ S141.out.cl.2.1 HVA.out.all Tryz.underlying29 rfl HVA.out.info) ?_
  (try simp only [Act.put, List.getElem_toArray, List.getElem_cons_succ, List.getElem_cons_zero, List.setIfInBounds_toArray, List.set_cons_zero, List.set_cons_succ])
  refine wpGrA_take (i := 2) (.slice A19 ((dg (n1)).length) c19) rfl (by kernel_rfl) (by kernel_rfl) (fun _ _ _ h => h) (yG_val _ (by rfl) (fun w' _ => by (go_simp; try rfl))) ?_
  (try simp only [Act.put, List.getElem_toArray, List.getElem_cons_succ, List.getElem_cons_zero, List.setIfInBounds_toArray, List.set_cons_zero, List.set_cons_succ])
  refine wpGrA_bytes_alloc (i := 3) (j := 7) (leB 32 n1) rfl rfl (by kernel_rfl) (by rfl) (fun w' => by go_simp) (fun w' hb => KB.out _ _ w' (S141.out.on hb).sq.2.1) rfl rfl zeroP ?_ ?_
  · intro A150 c150 w150 hb hs
    have S150 : Hid (St w w150 [(p14, g1, PT), (p10, va, PT), (p7, vr, PT)] [(A150, c150, bvs (leB 32 n1)), ((some ⟨b0, o0 + 32, none⟩), (c'' - 32), bvs (zs.drop 32)), (A19, c19, ivs (dg (n1))), ((some ⟨b0, o0, none⟩), c'', bvs (zs.take 32)), (A16, c16, ivs (dg (ordL))), (A14, c14, ivs (dg (n0))), ((some ⟨b0, o0 + 32, none⟩), (c'' - 32), bvs (zs.drop 32)), ((some ⟨b0, o0, none⟩), c'', bvs (zs.take 32))]) := hid ((S141.out.on hb).more hs)
    clear hb hs S141
    (try simp only [Act.put, List.getElem_toArray, List.getElem_cons_succ, List.getElem_cons_zero, List.setIfInBounds_toArray, List.set_cons_zero, List.set_cons_succ])
    refine wpGrA_take (i := 4) (.agg (sF s2)) rfl (by kernel_rfl) (by kernel_rfl) (fun _ _ _ h => h) (yG_call (by rfl) (fun w' => by go_simp) (fun w' hb => KS2.out _ _ w' (S150.out.on hb).sq.1)) ?_
    (try simp only [Act.put, List.getElem_toArray, List.getElem_cons_succ, List.getElem_cons_zero, List.setIfInBounds_toArray, List.set_cons_zero, List.set_cons_succ])
    refine wpGrA_take (i := 5) (.agg (g2)) rfl (by kernel_rfl) (by kernel_rfl) (fun _ _ _ h => h) (yG_call (by rfl) (fun w' => by go_simp) (fun w' hb => KM2.out w')) ?_
    (try simp only [Act.put, List.getElem_toArray, List.getElem_cons_succ, List.getElem_cons_zero, List.setIfInBounds_toArray, List.set_cons_zero, List.set_cons_succ])
    refine wpGrA_take (i := 6) (.agg (g3)) rfl (by kernel_rfl) (by kernel_rfl) (fun _ _ _ h => h) (yG_call (by rfl) (fun w' => by go_simp) (fun w' hb => KAD.out w')) ?_
    (try simp only [Act.put, List.getElem_toArray, List.getElem_cons_succ, List.getElem_cons_zero, List.setIfInBounds_toArray, List.set_cons_zero, List.set_cons_succ])
    refine wpGrA_alloc (i := 7) rfl rfl rfl zeroP (by kernel_rfl) ?_
    intro p15 w152 hp hz hb
    have S152 : Hid (St w w152 [(p15, zP, PT), (p14, g1, PT), (p10, va, PT), (p7, vr, PT)] [(A150, c150, bvs (leB 32 n1)), ((some ⟨b0, o0 + 32, none⟩), (c'' - 32), bvs (zs.drop 32)), (A19, c19, ivs (dg (n1))), ((some ⟨b0, o0, none⟩), c'', bvs (zs.take 32)), (A16, c16, ivs (dg (ordL))), (A14, c14, ivs (dg (n0))), ((some ⟨b0, o0 + 32, none⟩), (c'' - 32), bvs (zs.drop 32)), ((some ⟨b0, o0, none⟩), c'', bvs (zs.take 32))]) := hid (S150.out.alloc hb hp hz)
    clear hp hz hb S150
    (try simp only [Act.put, List.getElem_toArray, List.getElem_cons_succ, List.getElem_cons_zero, List.setIfInBounds_toArray, List.set_cons_zero, List.set_cons_succ])
    refine wpLA_here ?_
    have SL := hid S152.out.less
    clear S152
    refine wpLA_store rfl PT (.tmp 15) (.tmp 84) rfl p15 (g3) rfl rfl PT (zP) SL.out.cl.1 HV3.out.info (zP_is.size2 HV3.out) HV3.out.one ?_
    intro wx hb
    have S23 : Hid (St w (wx.setRow p15 (g3)) [(p15, g3, PT), (p14, g1, PT), (p10, va, PT), (p7, vr, PT)] []) := hid ((SL.out.on hb).put0 0 rfl)
    clear hb SL
    generalize wx.setRow p15 (g3) = w23 at S23 ⊢
    (try simp only [Act.put, List.getElem_toArray, List.getElem_cons_succ, List.getElem_cons_zero, List.setIfInBounds_toArray, List.set_cons_zero, List.set_cons_succ])
    refine wpLA_end ?_
    intro w151 hb
    have S151 := hid (S23.out.on hb)
    clear hb S23
    go_upto_region 16 with fail
    refine wpLA_start ?_
    refine wpLA_take (.bool hv) (yG_val _ (by rfl) (fun w' _ => by (go_simp; try rfl))) ?_
    (try simp only [Act.put, List.getElem_toArray, List.getElem_cons_succ, List.getElem_cons_zero, List.setIfInBounds_toArray, List.set_cons_zero, List.set_cons_succ])
    refine wpLA_take (.agg (g1)) (yG_part (by rfl) PT (.tmp 14) rfl p14 0 rfl PT (g1) (g1) (0, 0) _ S151.out.cl.2.1 HV1.out.all Tryz.underlying29 rfl HV1.out.info) ?_
    (try simp only [Act.put, List.getElem_toArray, List.getElem_cons_succ, List.getElem_cons_zero, List.setIfInBounds_toArray, List.set_cons_zero, List.set_cons_succ])
    refine wpLA_take (.agg (g3)) (yG_part (by rfl) PT (.tmp 15) rfl p15 0 rfl PT (g3) (g3) (0, 0) _ S151.out.cl.1 HV3.out.all Tryz.underlying29 rfl HV3.out.info) ?_
    (try simp only [Act.put, List.getElem_toArray, List.getElem_cons_succ, List.getElem_cons_zero, List.setIfInBounds_toArray, List.set_cons_zero, List.set_cons_succ])
    refine wpLA_take (.bool hv) (yG_call (by rfl) (fun w' => by go_simp) (fun w' hb => KSM.out w')) ?_
    (try simp only [Act.put, List.getElem_toArray, List.getElem_cons_succ, List.getElem_cons_zero, List.setIfInBounds_toArray, List.set_cons_zero, List.set_cons_succ])
    refine wpLA_take (.bool true) (yG_val _ (by rfl) (fun w' _ => by (go_simp; try rfl))) ?_
    (try simp only [Act.put, List.getElem_toArray, List.getElem_cons_succ, List.getElem_cons_zero, List.setIfInBounds_toArray, List.set_cons_zero, List.set_cons_succ])
    refine wpLA_take (.bool true) (yG_val _ (by rfl) (fun w' _ => by (go_simp; try rfl))) ?_
    (try simp only [Act.put, List.getElem_toArray, List.getElem_cons_succ, List.getElem_cons_zero, List.setIfInBounds_toArray, List.set_cons_zero, List.set_cons_succ])
    refine wpLA_end ?_
    intro w24 hb
    have S24 := hid (S151.out.on hb)
    clear hb S151
    go_wp2_with fail
    go_ret
    exact ⟨rfl, S24.out.below⟩
  · intro p15 w150 hp hz hb
    have S150 : Hid (St w w150 [(p15, zP, PT), (p14, g1, PT), (p10, va, PT), (p7, vr, PT)] [((some ⟨b0, o0 + 32, none⟩), (c'' - 32), bvs (zs.drop 32)), (A19, c19, ivs (dg (n1))), ((some ⟨b0, o0, none⟩), c'', bvs (zs.take 32)), (A16, c16, ivs (dg (ordL))), (A14, c14, ivs (dg (n0))), ((some ⟨b0, o0 + 32, none⟩), (c'' - 32), bvs (zs.drop 32)), ((some ⟨b0, o0, none⟩), c'', bvs (zs.take 32))]) := hid (S141.out.alloc hb hp hz)
    clear hp hz hb S141
    (try simp only [Act.put, List.getElem_toArray, List.getElem_cons_succ, List.getElem_cons_zero, List.setIfInBounds_toArray, List.set_cons_zero, List.set_cons_succ])
    refine wpGrA_bytes (i := 3) (leB 32 n1) rfl (by kernel_rfl) (by rfl) (fun w' => by go_simp) (fun w' hb => KB.out _ _ w' (S150.out.on hb).sq.2.1) ?_
    intro A25 c25 w25 hb hs
    have S25 : Hid (St w w25 [(p15, zP, PT), (p14, g1, PT), (p10, va, PT), (p7, vr, PT)] [(A25, c25, bvs (leB 32 n1)), ((some ⟨b0, o0 + 32, none⟩), (c'' - 32), bvs (zs.drop 32)), (A19, c19, ivs (dg (n1))), ((some ⟨b0, o0, none⟩), c'', bvs (zs.take 32)), (A16, c16, ivs (dg (ordL))), (A14, c14, ivs (dg (n0))), ((some ⟨b0, o0 + 32, none⟩), (c'' - 32), bvs (zs.drop 32)), ((some ⟨b0, o0, none⟩), c'', bvs (zs.take 32))]) := hid ((S150.out.on hb).more hs)
    clear hb hs S150
    (try simp only [Act.put, List.getElem_toArray, List.getElem_cons_succ, List.getElem_cons_zero, List.setIfInBounds_toArray, List.set_cons_zero, List.set_cons_succ])
    refine wpGrA_take (i := 4) (.agg (sF s2)) rfl (by kernel_rfl) (by kernel_rfl) (fun _ _ _ h => h) (yG_call (by rfl) (fun w' => by go_simp) (fun w' hb => KS2.out _ _ w' (S25.out.on hb).sq.1)) ?_
    (try simp only [Act.put, List.getElem_toArray, List.getElem_cons_succ, List.getElem_cons_zero, List.setIfInBounds_toArray, List.set_cons_zero, List.set_cons_succ])
    refine wpGrA_take (i := 5) (.agg (g2)) rfl (by kernel_rfl) (by kernel_rfl) (fun _ _ _ h => h) (yG_call (by rfl) (fun w' => by go_simp) (fun w' hb => KM2.out w')) ?_
    (try simp only [Act.put, List.getElem_toArray, List.getElem_cons_succ, List.getElem_cons_zero, List.setIfInBounds_toArray, List.set_cons_zero, List.set_cons_succ])
    refine wpGrA_take (i := 6) (.agg (g3)) rfl (by kernel_rfl) (by kernel_rfl) (fun _ _ _ h => h) (yG_call (by rfl) (fun w' => by go_simp) (fun w' hb => KAD.out w')) ?_
    (try simp only [Act.put, List.getElem_toArray, List.getElem_cons_succ, List.getElem_cons_zero, List.setIfInBounds_toArray, List.set_cons_zero, List.set_cons_succ])
    refine wpGrA_end (by kernel_rfl) ?_
    intro w152 hb
    have S152 := hid (S25.out.on hb)
    clear hb S25
    refine wpLA_here ?_
    have SL := hid S152.out.less
    clear S152
    refine wpLA_store rfl PT (.tmp 15) (.tmp 84) rfl p15 (g3) rfl rfl PT (zP) SL.out.cl.1 HV3.out.info (zP_is.size2 HV3.out) HV3.out.one ?_
    intro wx hb
    have S26 : Hid (St w (wx.setRow p15 (g3)) [(p15, g3, PT), (p14, g1, PT), (p10, va, PT), (p7, vr, PT)] []) := hid ((SL.out.on hb).put0 0 rfl)
    clear hb SL
    generalize wx.setRow p15 (g3) = w26 at S26 ⊢
    (try simp only [Act.put, List.getElem_toArray, List.getElem_cons_succ, List.getElem_cons_zero, List.setIfInBounds_toArray, List.set_cons_zero, List.set_cons_succ])
    refine wpLA_end ?_
    intro w151 hb
    have S151 := hid (S26.out.on hb)
    clear hb S26
    go_upto_region 16 with fail
    refine wpLA_start ?_
    refine wpLA_take (.bool hv) (yG_val _ (by rfl) (fun w' _ => by (go_simp; try rfl))) ?_
    (try simp only [Act.put, List.getElem_toArray, List.getElem_cons_succ, List.getElem_cons_zero, List.setIfInBounds_toArray, List.set_cons_zero, List.set_cons_succ])
    refine wpLA_take (.agg (g1)) (yG_part (by rfl) PT (.tmp 14) rfl p14 0 rfl PT (g1) (g1) (0, 0) _ S151.out.cl.2.1 HV1.out.all Tryz.underlying29 rfl HV1.out.info) ?_
    (try simp only [Act.put, List.getElem_toArray, List.getElem_cons_succ, List.getElem_cons_zero, List.setIfInBounds_toArray, List.set_cons_zero, List.set_cons_succ])
    refine wpLA_take (.agg (g3)) (yG_part (by rfl) PT (.tmp 15) rfl p15 0 rfl PT (g3) (g3) (0, 0) _ S151.out.cl.1 HV3.out.all Tryz.underlying29 rfl HV3.out.info) ?_
    (try simp only [Act.put, List.getElem_toArray, List.getElem_cons_succ, List.getElem_cons_zero, List.setIfInBounds_toArray, List.set_cons_zero, List.set_cons_succ])
    refine wpLA_take (.bool hv) (yG_call (by rfl) (fun w' => by go_simp) (fun w' hb => KSM.out w')) ?_
    (try simp only [Act.put, List.getElem_toArray, List.getElem_cons_succ, List.getElem_cons_zero, List.setIfInBounds_toArray, List.set_cons_zero, List.set_cons_succ])
    refine wpLA_take (.bool true) (yG_val _ (by rfl) (fun w' _ => by (go_simp; try rfl))) ?_
    (try simp only [Act.put, List.getElem_toArray, List.getElem_cons_succ, List.getElem_cons_zero, List.setIfInBounds_toArray, List.set_cons_zero, List.set_cons_succ])
    refine wpLA_take (.bool true) (yG_val _ (by rfl) (fun w' _ => by (go_simp; try rfl))) ?_
    (try simp only [Act.put, List.getElem_toArray, List.getElem_cons_succ, List.getElem_cons_zero, List.setIfInBounds_toArray, List.set_cons_zero, List.set_cons_succ])
    refine wpLA_end ?_
    intro w27 hb
    have S27 := hid (S151.out.on hb)
    clear hb S151
    go_wp2_with fail
    go_ret
    exact ⟨rfl, S27.out.below⟩
set_option maxRecDepth 100000 in
theorem holds10_any (A : Option Addr) (xs : List UInt8) (c : Nat) (A' : Option Addr) (ys : List UInt8) (c' : Nat) (A'' : Option Addr) (zs : List UInt8) (c'' : Nat) (w : World) (hS : Sq w w.heap.size A c (bvs xs)) (hS' : Sq w w.heap.size A' c' (bvs ys)) (hS'' : Sq w w.heap.size A'' c'' (bvs zs)) (hG : GlobL w) :
    Calls Tryz.prog 3 #[.slice A xs.length c, .slice A' ys.length c', .slice A'' zs.length c''] w fun e w' => e = .returned (.bool true) ∧ Below w.heap.size w w' := by
  by_cases hx : 60 < xs.length
  · have hxi : (60 : Int) < (xs.length : Int) := by omega
    have HAL := hid (alive10_any w hG)
    clear hG hS hS' hS'' hx  
    go_enter Tryz.func3, Tryz.ntmps3
    go_wp2_with fail
    refine HAL.out.mono ?_
    rintro e w1 ⟨rfl, hb1⟩
    go_wp2
    go_ret
    exact ⟨rfl, hb1⟩
  by_cases hy : 200 < ys.length
  · have hyi : (200 : Int) < (ys.length : Int) := by omega
    have h1 : ¬ (60 : Int) < (xs.length : Int) := by omega
    have HAL := hid (alive10_any w hG)
    clear hG hS hS' hS'' hy hx 
    go_enter Tryz.func3, Tryz.ntmps3
    go_wp2_with fail
    refine HAL.out.mono ?_
    rintro e w1 ⟨rfl, hb1⟩
    go_wp2
    go_ret
    exact ⟨rfl, hb1⟩
  by_cases hz : 100 < zs.length
  · have hzi : (100 : Int) < (zs.length : Int) := by omega
    have h1 : ¬ (60 : Int) < (xs.length : Int) := by omega
    have h2 : ¬ (200 : Int) < (ys.length : Int) := by omega
    have HAL := hid (alive10_any w hG)
    clear hG hS hS' hS'' hz hx hy
    go_enter Tryz.func3, Tryz.ntmps3
    go_wp2_with fail
    refine HAL.out.mono ?_
    rintro e w1 ⟨rfl, hb1⟩
    go_wp2
    go_ret
    exact ⟨rfl, hb1⟩
  by_cases h64 : zs.length = 64
  · rw [h64]
    cases hr : ptOf (zs.take 32) with
    | none => exact holds_r A xs c A' ys c' A'' zs c'' w hG hS hS' hS'' (by omega) (by omega) h64 hr
    | some p =>
      cases ha : ptOf xs with
      | none => exact holds_a A xs c A' ys c' A'' zs c'' w hG hS hS' hS'' (by omega) (by omega) h64 (by rw [hr]; rfl) ha
      | some q =>
        by_cases hl : leN (zs.drop 32) < ordL
        · exact holds_all A xs c A' ys c' A'' zs c'' w hG hS hS' hS'' (by omega) (by omega) h64 (by rw [hr]; rfl) (by rw [ha]; rfl) hl
        · exact holds_n A xs c A' ys c' A'' zs c'' w hG hS hS' hS'' (by omega) (by omega) h64 (by rw [hr]; rfl) (by rw [ha]; rfl) hl
  · exact holds_other A xs c A' ys c' A'' zs c'' w hG hS hS' hS'' (by omega) (by omega) (by omega) h64
end Go.Proofs.YtpdgedeghjfaaaaGreatDoor
end
