/-
  Texts of this claim in one file: SgE, SgI.
-/
import Derived.Test.YtgehfbcagaaggaaGreatDoorPk8
section
namespace Go.Proofs.YtgehfbcagaaggaaGreatDoor
open Go Go.RowKit
set_option linter.unusedVariables false
set_option linter.unusedSimpArgs false
theorem exN_ltS (xs : List UInt8) : exN xs < ordL := by
  unfold exN exB
  by_cases h : xs.length = 32 ∧ leN xs < ordL
  · rw [if_pos (decide_eq_true h)]; exact h.2
  · rw [if_neg (by simpa using h)]; decide +kernel
set_option maxHeartbeats 1000000 in
theorem Holds_no (A : Option Addr) (xs : List UInt8) (c : Nat) (A'' : Option Addr) (n c'' : Nat) (A' : Option Addr) (c' m : Nat) (w : World) (hn : n ≠ 64) : Calls Tryz.prog 31 #[.slice A xs.length c, .slice A'' n c'', .slice A' m c'] w fun e w' => e = .returned (.bool false) ∧ Below w.heap.size w w' := by
  have H64 := hid (show ¬ (n : Int) = 64 by omega)
  clear hn
  go_enter Tryz.func31, Tryz.ntmps31
  have S0 : Hid (St w w [] []) := hid (St.start w)
  go_upto_region 0 with fail
  refine wpLA_start ?_
  refine wpLA_take (.bool false) (yG_val _ (by rfl) (fun w' _ => by (go_simp; try rfl))) ?_
  (try simp only [Act.put, List.getElem_toArray, List.getElem_cons_succ, List.getElem_cons_zero, List.setIfInBounds_toArray, List.set_cons_zero, List.set_cons_succ])
  refine wpLA_end ?_
  intro w1 hb
  have S1 := hid (S0.out.on hb)
  clear hb S0
  go_upto_region 1 with fail
  refine wpLA_start ?_
  refine wpLA_take (.slice A'' n c'') (yG_val _ (by rfl) (fun w' _ => by (go_simp; try rfl))) ?_
  (try simp only [Act.put, List.getElem_toArray, List.getElem_cons_succ, List.getElem_cons_zero, List.setIfInBounds_toArray, List.set_cons_zero, List.set_cons_succ])
  refine wpLA_take (.int .i64 ((n : Nat))) (yG_val _ (by rfl) (fun w' _ => by (go_simp; try rfl))) ?_
  (try simp only [Act.put, List.getElem_toArray, List.getElem_cons_succ, List.getElem_cons_zero, List.setIfInBounds_toArray, List.set_cons_zero, List.set_cons_succ])
  refine wpLA_take (.bool true) (yG_val _ (by rfl) (fun w' _ => by (have h := H64.out; go_simp; try omega))) ?_
  (try simp only [Act.put, List.getElem_toArray, List.getElem_cons_succ, List.getElem_cons_zero, List.setIfInBounds_toArray, List.set_cons_zero, List.set_cons_succ])
  refine wpLA_end ?_
  intro w2 hb
  have S2 := hid (S1.out.on hb)
  clear hb S1
  go_upto_region 2 with fail
  refine wpLA_start ?_
  refine wpLA_take (.bool false) (yG_val _ (by rfl) (fun w' _ => by (go_simp; try rfl))) ?_
  (try simp only [Act.put, List.getElem_toArray, List.getElem_cons_succ, List.getElem_cons_zero, List.setIfInBounds_toArray, List.set_cons_zero, List.set_cons_succ])
  refine wpLA_end ?_
  intro w3 hb
  have S3 := hid (S2.out.on hb)
  clear hb S2
  go_wp2_with fail
  go_ret
  exact ⟨rfl, S3.out.below⟩
set_option maxHeartbeats 2000000 in
theorem Holds_r (A : Option Addr) (xs : List UInt8) (c : Nat) (A'' : Option Addr) (zs : List UInt8) (c'' : Nat) (A' : Option Addr) (ls : List (List UInt8)) (c' m : Nat) (w : World) (hG : GlobL w) (hS : Sq w w.heap.size A c (bvs xs)) (hS'' : Sq w w.heap.size A'' c'' (bvs zs)) (hR : Rows2' w w.heap.size A' ls) (hm : ls.length = m) (hm2 : m ≤ 10) (hl : ls.flatten.length ≤ 10000) (hx : xs.length ≤ 10000) (h64 : zs.length = 64) (hr : ptOf (zs.take 32) = none) :
    Calls Tryz.prog 31 #[.slice A xs.length c, .slice A'' 64 c'', .slice A' m c'] w fun e w' => e = .returned (.bool false) ∧ Below w.heap.size w w' := by
  obtain ⟨b0, o0, rfl, -⟩ := hS''.form (by rw [bvs_length]; omega)
  have HS := hid hS; have HS'' := hid hS''; have HR := hid hR; have HG := hid hG; have LZS := hid h64; have HM := hid hm
  have l32 : (zs.take 32).length = 32 := by rw [List.length_take, h64]; rfl
  have d32 : (zs.drop 32).length = 32 := by rw [List.length_drop, h64]
  have L32 := hid l32
  obtain ⟨vr, hvr, KR⟩ := CvOf (zs.take 32) (by omega)
  obtain ⟨va, hva, KA⟩ := CvOf xs (by omega)
  rw [l32] at KR
  have HVR := hid hvr; have HVA := hid hva
  obtain ⟨e1, he1⟩ : ∃ e : SF, e.val = exN (zs.drop 32) := ⟨⟨exN (zs.drop 32), exN_ltS _⟩, rfl⟩
  have KX : Hid (∀ (A : Option Addr) (c : Nat) (W : World), Sq W W.heap.size A c (bvs (zs.drop 32)) → Calls Tryz.prog 53 #[.slice A 32 c] W fun e w' => e = .returned (.tuple #[.agg (sF e1), .bool (exB (zs.drop 32))]) ∧ Below W.heap.size W w') := hid fun A c W h => by
    have := ScExact_e A (zs.drop 32) c W h (by omega)
    rw [d32, ← he1] at this; exact this
  rw [hr] at KR
  simp only [Option.isSome_none] at KR
  obtain ⟨q2, hq2⟩ : ∃ q, q = exB (zs.drop 32) := ⟨_, rfl⟩
  rw [← hq2] at KX
  obtain ⟨q3, hq3⟩ : ∃ q, q = (ptOf xs).isSome := ⟨_, rfl⟩
  rw [← hq3] at KA
  clear hq2 hq3 hr
  clear hG hS hS'' hR hm hm2 hl hx h64 l32 d32 hvr hva he1
  go_enter Tryz.func31, Tryz.ntmps31
  have S0 : Hid (St w w [] []) := hid (St.start w)
  go_upto_region 0 with fail
  refine wpLA_start ?_
  refine wpLA_take (.bool false) (yG_val _ (by rfl) (fun w' _ => by (go_simp; try rfl))) ?_
  (try simp only [Act.put, List.getElem_toArray, List.getElem_cons_succ, List.getElem_cons_zero, List.setIfInBounds_toArray, List.set_cons_zero, List.set_cons_succ])
  refine wpLA_end ?_
  intro w1 hb
  have S1 := hid (S0.out.on hb)
  clear hb S0
  go_upto_region 1 with fail
  refine wpLA_start ?_
  refine wpLA_take (.slice (some ⟨b0, o0, none⟩) 64 c'') (yG_val _ (by rfl) (fun w' _ => by (go_simp; try rfl))) ?_
  (try simp only [Act.put, List.getElem_toArray, List.getElem_cons_succ, List.getElem_cons_zero, List.setIfInBounds_toArray, List.set_cons_zero, List.set_cons_succ])
  refine wpLA_take (.int .i64 64) (yG_val _ (by rfl) (fun w' _ => by (go_simp; try rfl))) ?_
  (try simp only [Act.put, List.getElem_toArray, List.getElem_cons_succ, List.getElem_cons_zero, List.setIfInBounds_toArray, List.set_cons_zero, List.set_cons_succ])
  refine wpLA_take (.bool false) (yG_val _ (by rfl) (fun w' _ => by (go_simp; try rfl))) ?_
  (try simp only [Act.put, List.getElem_toArray, List.getElem_cons_succ, List.getElem_cons_zero, List.setIfInBounds_toArray, List.set_cons_zero, List.set_cons_succ])
  refine wpLA_end ?_
  intro w2 hb
  have S2 := hid (S1.out.on hb)
  clear hb S1
  go_upto_region 3 with fail
  refine wpLA_start ?_
  refine wpLA_take (.slice (some ⟨b0, o0, none⟩) 64 c'') (yG_val _ (by rfl) (fun w' _ => by (go_simp; try rfl))) ?_
  (try simp only [Act.put, List.getElem_toArray, List.getElem_cons_succ, List.getElem_cons_zero, List.setIfInBounds_toArray, List.set_cons_zero, List.set_cons_succ])
  have HC3 : 64 ≤ c'' := by (have := (HS''.out.on6 S2.out.below).cap; rw [bvs_length, LZS.out] at this; exact this.1)
  refine wpLA_take (.slice (some ⟨b0, o0, none⟩) 32 c'') (yG_val _ (by rfl) (fun w' _ => by (have h1 : (64 : Int) ≤ ((c'' : Nat) : Int) := (by omega); have h2 : (32 : Int) ≤ ((c'' : Nat) : Int) := (by omega); clear HC3; go_simp; try omega; try rfl))) ?_
  (try simp only [Act.put, List.getElem_toArray, List.getElem_cons_succ, List.getElem_cons_zero, List.setIfInBounds_toArray, List.set_cons_zero, List.set_cons_succ])
  have S3 : Hid (St w w2 [] [((some ⟨b0, o0, none⟩), c'', bvs (zs.take 32))]) := hid (S2.out.more (sq_take (HS''.out.on6 S2.out.below) 32))
  clear HC3 S2
  refine wpLA_take (.tuple #[(.agg (vr)), (.bool false)]) (yG_call (by rfl) (fun w' => by go_simp) (fun w' hb => KR.out _ _ w' (S3.out.on hb).sq.1)) ?_
  (try simp only [Act.put, List.getElem_toArray, List.getElem_cons_succ, List.getElem_cons_zero, List.setIfInBounds_toArray, List.set_cons_zero, List.set_cons_succ])
  refine wpLA_take (.tuple #[(.agg (vr)), (.bool false)]) (yG_val _ (by rfl) (fun w' _ => by (go_simp; try rfl))) ?_
  (try simp only [Act.put, List.getElem_toArray, List.getElem_cons_succ, List.getElem_cons_zero, List.setIfInBounds_toArray, List.set_cons_zero, List.set_cons_succ])
  refine wpLA_take (.agg (vr)) (yG_val _ (by rfl) (fun w' _ => by (go_simp; try rfl))) ?_
  (try simp only [Act.put, List.getElem_toArray, List.getElem_cons_succ, List.getElem_cons_zero, List.setIfInBounds_toArray, List.set_cons_zero, List.set_cons_succ])
  refine wpLA_take (.bool false) (yG_val _ (by rfl) (fun w' _ => by (go_simp; try rfl))) ?_
  (try simp only [Act.put, List.getElem_toArray, List.getElem_cons_succ, List.getElem_cons_zero, List.setIfInBounds_toArray, List.set_cons_zero, List.set_cons_succ])
  refine wpLA_alloc (by rfl) rfl zeroP ?_
  intro p4 w4 hp hz hb
  have N4 := hid (S3.out.sq.far hp)
  have S4 : Hid (St w w4 [(p4, zP, PT)] [((some ⟨b0, o0, none⟩), c'', bvs (zs.take 32))]) := hid (S3.out.alloc hb hp hz)
  clear hp hz hb S3
  (try simp only [Act.put, List.getElem_toArray, List.getElem_cons_succ, List.getElem_cons_zero, List.setIfInBounds_toArray, List.set_cons_zero, List.set_cons_succ])
  refine wpLA_store rfl PT (.tmp 7) (.tmp 21) rfl p4 (vr) rfl rfl PT (zP) S4.out.cl.1 HVR.out.info (zP_is.size2 HVR.out) HVR.out.one ?_
  intro wx hb
  have S5 : Hid (St w (wx.setRow p4 (vr)) [(p4, vr, PT)] [((some ⟨b0, o0, none⟩), c'', bvs (zs.take 32))]) := hid ((S4.out.on hb).put 0 rfl N4.out)
  clear hb S4
  generalize wx.setRow p4 (vr) = w5 at S5 ⊢
  (try simp only [Act.put, List.getElem_toArray, List.getElem_cons_succ, List.getElem_cons_zero, List.setIfInBounds_toArray, List.set_cons_zero, List.set_cons_succ])
  refine wpLA_take (.bool false) (yG_val _ (by rfl) (fun w' _ => by (go_simp; try rfl))) ?_
  (try simp only [Act.put, List.getElem_toArray, List.getElem_cons_succ, List.getElem_cons_zero, List.setIfInBounds_toArray, List.set_cons_zero, List.set_cons_succ])
  refine wpLA_end ?_
  intro w6 hb
  have S6 := hid (S5.out.on hb)
  clear hb S5
  go_upto_region 4 with fail
  refine wpLA_start ?_
  refine wpLA_take (.slice (some ⟨b0, o0, none⟩) 64 c'') (yG_val _ (by rfl) (fun w' _ => by (go_simp; try rfl))) ?_
  (try simp only [Act.put, List.getElem_toArray, List.getElem_cons_succ, List.getElem_cons_zero, List.setIfInBounds_toArray, List.set_cons_zero, List.set_cons_succ])
  have HC7 : 64 ≤ c'' := by (have := (HS''.out.on6 S6.out.below).cap; rw [bvs_length, LZS.out] at this; exact this.1)
  refine wpLA_take (.slice (some ⟨b0, o0 + 32, none⟩) 32 (c'' - 32)) (yG_val _ (by rfl) (fun w' _ => by (have h1 : (64 : Int) ≤ ((c'' : Nat) : Int) := (by omega); have h2 : (32 : Int) ≤ ((c'' : Nat) : Int) := (by omega); clear HC7; go_simp; try omega; try rfl))) ?_
  (try simp only [Act.put, List.getElem_toArray, List.getElem_cons_succ, List.getElem_cons_zero, List.setIfInBounds_toArray, List.set_cons_zero, List.set_cons_succ])
  have S7 : Hid (St w w6 [(p4, vr, PT)] [((some ⟨b0, o0 + 32, none⟩), (c'' - 32), bvs (zs.drop 32)), ((some ⟨b0, o0, none⟩), c'', bvs (zs.take 32))]) := hid (S6.out.more (sq_drop (HS''.out.on6 S6.out.below) 32 (by rw [LZS.out]; decide)))
  clear HC7 S6
  refine wpLA_take (.tuple #[(.agg (sF e1)), (.bool q2)]) (yG_call (by rfl) (fun w' => by go_simp) (fun w' hb => KX.out _ _ w' (S7.out.on hb).sq.1)) ?_
  (try simp only [Act.put, List.getElem_toArray, List.getElem_cons_succ, List.getElem_cons_zero, List.setIfInBounds_toArray, List.set_cons_zero, List.set_cons_succ])
  refine wpLA_take (.tuple #[(.agg (sF e1)), (.bool q2)]) (yG_val _ (by rfl) (fun w' _ => by (go_simp; try rfl))) ?_
  (try simp only [Act.put, List.getElem_toArray, List.getElem_cons_succ, List.getElem_cons_zero, List.setIfInBounds_toArray, List.set_cons_zero, List.set_cons_succ])
  refine wpLA_take (.agg (sF e1)) (yG_val _ (by rfl) (fun w' _ => by (go_simp; try rfl))) ?_
  (try simp only [Act.put, List.getElem_toArray, List.getElem_cons_succ, List.getElem_cons_zero, List.setIfInBounds_toArray, List.set_cons_zero, List.set_cons_succ])
  refine wpLA_take (.bool q2) (yG_val _ (by rfl) (fun w' _ => by (go_simp; try rfl))) ?_
  (try simp only [Act.put, List.getElem_toArray, List.getElem_cons_succ, List.getElem_cons_zero, List.setIfInBounds_toArray, List.set_cons_zero, List.set_cons_succ])
  refine wpLA_alloc (by rfl) rfl zeroS0 ?_
  intro p8 w8 hp hz hb
  have N8 := hid (S7.out.sq.far hp)
  have S8 : Hid (St w w8 [(p8, sF 0, ST), (p4, vr, PT)] [((some ⟨b0, o0 + 32, none⟩), (c'' - 32), bvs (zs.drop 32)), ((some ⟨b0, o0, none⟩), c'', bvs (zs.take 32))]) := hid (S7.out.alloc hb hp hz)
  clear hp hz hb S7
  (try simp only [Act.put, List.getElem_toArray, List.getElem_cons_succ, List.getElem_cons_zero, List.setIfInBounds_toArray, List.set_cons_zero, List.set_cons_succ])
  refine wpLA_store rfl ST (.tmp 9) (.tmp 27) rfl p8 (sF e1) rfl rfl ST (sF 0) S8.out.cl.1 (infoSF e1) rfl (oneSF e1) ?_
  intro wx hb
  have S9 : Hid (St w (wx.setRow p8 (sF e1)) [(p8, sF e1, ST), (p4, vr, PT)] [((some ⟨b0, o0 + 32, none⟩), (c'' - 32), bvs (zs.drop 32)), ((some ⟨b0, o0, none⟩), c'', bvs (zs.take 32))]) := hid ((S8.out.on hb).put 0 rfl N8.out)
  clear hb S8
  generalize wx.setRow p8 (sF e1) = w9 at S9 ⊢
  (try simp only [Act.put, List.getElem_toArray, List.getElem_cons_succ, List.getElem_cons_zero, List.setIfInBounds_toArray, List.set_cons_zero, List.set_cons_succ])
  refine wpLA_take (.bool q2) (yG_val _ (by rfl) (fun w' _ => by (go_simp; try rfl))) ?_
  (try simp only [Act.put, List.getElem_toArray, List.getElem_cons_succ, List.getElem_cons_zero, List.setIfInBounds_toArray, List.set_cons_zero, List.set_cons_succ])
  refine wpLA_end ?_
  intro w10 hb
  have S10 := hid (S9.out.on hb)
  clear hb S9
  go_upto_region 5 with fail
  refine wpLA_start ?_
  refine wpLA_take (.slice A (xs.length) c) (yG_val _ (by rfl) (fun w' _ => by (go_simp; try rfl))) ?_
  (try simp only [Act.put, List.getElem_toArray, List.getElem_cons_succ, List.getElem_cons_zero, List.setIfInBounds_toArray, List.set_cons_zero, List.set_cons_succ])
  refine wpLA_take (.tuple #[(.agg (va)), (.bool q3)]) (yG_call (by rfl) (fun w' => by go_simp) (fun w' hb => KA.out _ _ w' (HS.out.on6 ((S10.out.on hb).below)))) ?_
  (try simp only [Act.put, List.getElem_toArray, List.getElem_cons_succ, List.getElem_cons_zero, List.setIfInBounds_toArray, List.set_cons_zero, List.set_cons_succ])
  refine wpLA_take (.tuple #[(.agg (va)), (.bool q3)]) (yG_val _ (by rfl) (fun w' _ => by (go_simp; try rfl))) ?_
  (try simp only [Act.put, List.getElem_toArray, List.getElem_cons_succ, List.getElem_cons_zero, List.setIfInBounds_toArray, List.set_cons_zero, List.set_cons_succ])
  refine wpLA_take (.agg (va)) (yG_val _ (by rfl) (fun w' _ => by (go_simp; try rfl))) ?_
  (try simp only [Act.put, List.getElem_toArray, List.getElem_cons_succ, List.getElem_cons_zero, List.setIfInBounds_toArray, List.set_cons_zero, List.set_cons_succ])
  refine wpLA_take (.bool q3) (yG_val _ (by rfl) (fun w' _ => by (go_simp; try rfl))) ?_
  (try simp only [Act.put, List.getElem_toArray, List.getElem_cons_succ, List.getElem_cons_zero, List.setIfInBounds_toArray, List.set_cons_zero, List.set_cons_succ])
  refine wpLA_alloc (by rfl) rfl zeroP ?_
  intro p11 w11 hp hz hb
  have N11 := hid (S10.out.sq.far hp)
  have S11 : Hid (St w w11 [(p11, zP, PT), (p8, sF e1, ST), (p4, vr, PT)] [((some ⟨b0, o0 + 32, none⟩), (c'' - 32), bvs (zs.drop 32)), ((some ⟨b0, o0, none⟩), c'', bvs (zs.take 32))]) := hid (S10.out.alloc hb hp hz)
  clear hp hz hb S10
  (try simp only [Act.put, List.getElem_toArray, List.getElem_cons_succ, List.getElem_cons_zero, List.setIfInBounds_toArray, List.set_cons_zero, List.set_cons_succ])
  refine wpLA_store rfl PT (.tmp 11) (.tmp 32) rfl p11 (va) rfl rfl PT (zP) S11.out.cl.1 HVA.out.info (zP_is.size2 HVA.out) HVA.out.one ?_
  intro wx hb
  have S12 : Hid (St w (wx.setRow p11 (va)) [(p11, va, PT), (p8, sF e1, ST), (p4, vr, PT)] [((some ⟨b0, o0 + 32, none⟩), (c'' - 32), bvs (zs.drop 32)), ((some ⟨b0, o0, none⟩), c'', bvs (zs.take 32))]) := hid ((S11.out.on hb).put 0 rfl N11.out)
  clear hb S11
  generalize wx.setRow p11 (va) = w12 at S12 ⊢
  (try simp only [Act.put, List.getElem_toArray, List.getElem_cons_succ, List.getElem_cons_zero, List.setIfInBounds_toArray, List.set_cons_zero, List.set_cons_succ])
  refine wpLA_take (.bool q3) (yG_val _ (by rfl) (fun w' _ => by (go_simp; try rfl))) ?_
  (try simp only [Act.put, List.getElem_toArray, List.getElem_cons_succ, List.getElem_cons_zero, List.setIfInBounds_toArray, List.set_cons_zero, List.set_cons_succ])
  refine wpLA_end ?_
  intro w13 hb
  have S13 := hid (S12.out.on hb)
  clear hb S12
  go_upto_region 6 with fail
  refine wpLA_start ?_
  refine wpLA_take (.bool false) (yG_val _ (by rfl) (fun w' _ => by (go_simp; try rfl))) ?_
  (try simp only [Act.put, List.getElem_toArray, List.getElem_cons_succ, List.getElem_cons_zero, List.setIfInBounds_toArray, List.set_cons_zero, List.set_cons_succ])
  refine wpLA_take (.bool true) (yG_val _ (by rfl) (fun w' _ => by (go_simp; try rfl))) ?_
  (try simp only [Act.put, List.getElem_toArray, List.getElem_cons_succ, List.getElem_cons_zero, List.setIfInBounds_toArray, List.set_cons_zero, List.set_cons_succ])
  refine wpLA_take (.bool true) (yG_val _ (by rfl) (fun w' _ => by (go_simp; try rfl))) ?_
  (try simp only [Act.put, List.getElem_toArray, List.getElem_cons_succ, List.getElem_cons_zero, List.setIfInBounds_toArray, List.set_cons_zero, List.set_cons_succ])
  refine wpLA_take undef (yG_skip (by rfl)) ?_
  (try simp only [Act.put, List.getElem_toArray, List.getElem_cons_succ, List.getElem_cons_zero, List.setIfInBounds_toArray, List.set_cons_zero, List.set_cons_succ])
  refine wpLA_take undef (yG_skip (by rfl)) ?_
  (try simp only [Act.put, List.getElem_toArray, List.getElem_cons_succ, List.getElem_cons_zero, List.setIfInBounds_toArray, List.set_cons_zero, List.set_cons_succ])
  refine wpLA_take (.bool true) (yG_val _ (by rfl) (fun w' _ => by (go_simp; try rfl))) ?_
  (try simp only [Act.put, List.getElem_toArray, List.getElem_cons_succ, List.getElem_cons_zero, List.setIfInBounds_toArray, List.set_cons_zero, List.set_cons_succ])
  refine wpLA_take (.bool true) (yG_val _ (by rfl) (fun w' _ => by (go_simp; try rfl))) ?_
  (try simp only [Act.put, List.getElem_toArray, List.getElem_cons_succ, List.getElem_cons_zero, List.setIfInBounds_toArray, List.set_cons_zero, List.set_cons_succ])
  refine wpLA_take undef (yG_skip (by rfl)) ?_
  (try simp only [Act.put, List.getElem_toArray, List.getElem_cons_succ, List.getElem_cons_zero, List.setIfInBounds_toArray, List.set_cons_zero, List.set_cons_succ])
  refine wpLA_take undef (yG_skip (by rfl)) ?_
  (try simp only [Act.put, List.getElem_toArray, List.getElem_cons_succ, List.getElem_cons_zero, List.setIfInBounds_toArray, List.set_cons_zero, List.set_cons_succ])
  refine wpLA_take (.bool true) (yG_val _ (by rfl) (fun w' _ => by (go_simp; try rfl))) ?_
  (try simp only [Act.put, List.getElem_toArray, List.getElem_cons_succ, List.getElem_cons_zero, List.setIfInBounds_toArray, List.set_cons_zero, List.set_cons_succ])
  refine wpLA_end ?_
  intro w14 hb
  have S14 := hid (S13.out.on hb)
  clear hb S13
  go_upto_region 7 with fail
  refine wpLA_start ?_
  refine wpLA_take (.bool false) (yG_val _ (by rfl) (fun w' _ => by (go_simp; try rfl))) ?_
  (try simp only [Act.put, List.getElem_toArray, List.getElem_cons_succ, List.getElem_cons_zero, List.setIfInBounds_toArray, List.set_cons_zero, List.set_cons_succ])
  refine wpLA_end ?_
  intro w15 hb
  have S15 := hid (S14.out.on hb)
  clear hb S14
  go_wp2_with fail
  go_ret
  exact ⟨rfl, S15.out.below⟩
set_option maxHeartbeats 2000000 in
theorem Holds_x (A : Option Addr) (xs : List UInt8) (c : Nat) (A'' : Option Addr) (zs : List UInt8) (c'' : Nat) (A' : Option Addr) (ls : List (List UInt8)) (c' m : Nat) (w : World) (hG : GlobL w) (hS : Sq w w.heap.size A c (bvs xs)) (hS'' : Sq w w.heap.size A'' c'' (bvs zs)) (hR : Rows2' w w.heap.size A' ls) (hm : ls.length = m) (hm2 : m ≤ 10) (hl : ls.flatten.length ≤ 10000) (hx : xs.length ≤ 10000) (h64 : zs.length = 64) (hr : (ptOf (zs.take 32)).isSome = true) (hx2 : exB (zs.drop 32) = false) :
    Calls Tryz.prog 31 #[.slice A xs.length c, .slice A'' 64 c'', .slice A' m c'] w fun e w' => e = .returned (.bool false) ∧ Below w.heap.size w w' := by
  obtain ⟨b0, o0, rfl, -⟩ := hS''.form (by rw [bvs_length]; omega)
  have HS := hid hS; have HS'' := hid hS''; have HR := hid hR; have HG := hid hG; have LZS := hid h64; have HM := hid hm
  have l32 : (zs.take 32).length = 32 := by rw [List.length_take, h64]; rfl
  have d32 : (zs.drop 32).length = 32 := by rw [List.length_drop, h64]
  have L32 := hid l32
  obtain ⟨vr, hvr, KR⟩ := CvOf (zs.take 32) (by omega)
  obtain ⟨va, hva, KA⟩ := CvOf xs (by omega)
  rw [l32] at KR
  have HVR := hid hvr; have HVA := hid hva
  obtain ⟨e1, he1⟩ : ∃ e : SF, e.val = exN (zs.drop 32) := ⟨⟨exN (zs.drop 32), exN_ltS _⟩, rfl⟩
  have KX : Hid (∀ (A : Option Addr) (c : Nat) (W : World), Sq W W.heap.size A c (bvs (zs.drop 32)) → Calls Tryz.prog 53 #[.slice A 32 c] W fun e w' => e = .returned (.tuple #[.agg (sF e1), .bool (exB (zs.drop 32))]) ∧ Below W.heap.size W w') := hid fun A c W h => by
    have := ScExact_e A (zs.drop 32) c W h (by omega)
    rw [d32, ← he1] at this; exact this
  rw [hr] at KR
  rw [hx2] at KX
  obtain ⟨q3, hq3⟩ : ∃ q, q = (ptOf xs).isSome := ⟨_, rfl⟩
  rw [← hq3] at KA
  clear hq3 hr hx2
  clear hG hS hS'' hR hm hm2 hl hx h64 l32 d32 hvr hva he1
  go_enter Tryz.func31, Tryz.ntmps31
  have S0 : Hid (St w w [] []) := hid (St.start w)
  go_upto_region 0 with fail
  refine wpLA_start ?_
  refine wpLA_take (.bool false) (yG_val _ (by rfl) (fun w' _ => by (go_simp; try rfl))) ?_
  (try simp only [Act.put, List.getElem_toArray, List.getElem_cons_succ, List.getElem_cons_zero, List.setIfInBounds_toArray, List.set_cons_zero, List.set_cons_succ])
  refine wpLA_end ?_
  intro w1 hb
  have S1 := hid (S0.out.on hb)
  clear hb S0
  go_upto_region 1 with fail
  refine wpLA_start ?_
  refine wpLA_take (.slice (some ⟨b0, o0, none⟩) 64 c'') (yG_val _ (by rfl) (fun w' _ => by (go_simp; try rfl))) ?_
  (try simp only [Act.put, List.getElem_toArray, List.getElem_cons_succ, List.getElem_cons_zero, List.setIfInBounds_toArray, List.set_cons_zero, List.set_cons_succ])
  refine wpLA_take (.int .i64 64) (yG_val _ (by rfl) (fun w' _ => by (go_simp; try rfl))) ?_
  (try simp only [Act.put, List.getElem_toArray, List.getElem_cons_succ, List.getElem_cons_zero, List.setIfInBounds_toArray, List.set_cons_zero, List.set_cons_succ])
  refine wpLA_take (.bool false) (yG_val _ (by rfl) (fun w' _ => by (go_simp; try rfl))) ?_
  (try simp only [Act.put, List.getElem_toArray, List.getElem_cons_succ, List.getElem_cons_zero, List.setIfInBounds_toArray, List.set_cons_zero, List.set_cons_succ])
  refine wpLA_end ?_
  intro w2 hb
  have S2 := hid (S1.out.on hb)
  clear hb S1
  go_upto_region 3 with fail
  refine wpLA_start ?_
  refine wpLA_take (.slice (some ⟨b0, o0, none⟩) 64 c'') (yG_val _ (by rfl) (fun w' _ => by (go_simp; try rfl))) ?_
  (try simp only [Act.put, List.getElem_toArray, List.getElem_cons_succ, List.getElem_cons_zero, List.setIfInBounds_toArray, List.set_cons_zero, List.set_cons_succ])
  have HC3 : 64 ≤ c'' := by (have := (HS''.out.on6 S2.out.below).cap; rw [bvs_length, LZS.out] at this; exact this.1)
  refine wpLA_take (.slice (some ⟨b0, o0, none⟩) 32 c'') (yG_val _ (by rfl) (fun w' _ => by (have h1 : (64 : Int) ≤ ((c'' : Nat) : Int) := (by omega); have h2 : (32 : Int) ≤ ((c'' : Nat) : Int) := (by omega); clear HC3; go_simp; try omega; try rfl))) ?_
  (try simp only [Act.put, List.getElem_toArray, List.getElem_cons_succ, List.getElem_cons_zero, List.setIfInBounds_toArray, List.set_cons_zero, List.set_cons_succ])
  have S3 : Hid (St w w2 [] [((some ⟨b0, o0, none⟩), c'', bvs (zs.take 32))]) := hid (S2.out.more (sq_take (HS''.out.on6 S2.out.below) 32))
  clear HC3 S2
  refine wpLA_take (.tuple #[(.agg (vr)), (.bool true)]) (yG_call (by rfl) (fun w' => by go_simp) (fun w' hb => KR.out _ _ w' (S3.out.on hb).sq.1)) ?_
  (try simp only [Act.put, List.getElem_toArray, List.getElem_cons_succ, List.getElem_cons_zero, List.setIfInBounds_toArray, List.set_cons_zero, List.set_cons_succ])
  refine wpLA_take (.tuple #[(.agg (vr)), (.bool true)]) (yG_val _ (by rfl) (fun w' _ => by (go_simp; try rfl))) ?_
  (try simp only [Act.put, List.getElem_toArray, List.getElem_cons_succ, List.getElem_cons_zero, List.setIfInBounds_toArray, List.set_cons_zero, List.set_cons_succ])
  refine wpLA_take (.agg (vr)) (yG_val _ (by rfl) (fun w' _ => by (go_simp; try rfl))) ?_
  (try simp only [Act.put, List.getElem_toArray, List.getElem_cons_succ, List.getElem_cons_zero, List.setIfInBounds_toArray, List.set_cons_zero, List.set_cons_succ])
  refine wpLA_take (.bool true) (yG_val _ (by rfl) (fun w' _ => by (go_simp; try rfl))) ?_
  (try simp only [Act.put, List.getElem_toArray, List.getElem_cons_succ, List.getElem_cons_zero, List.setIfInBounds_toArray, List.set_cons_zero, List.set_cons_succ])
  refine wpLA_alloc (by rfl) rfl zeroP ?_
  intro p4 w4 hp hz hb
  have N4 := hid (S3.out.sq.far hp)
  have S4 : Hid (St w w4 [(p4, zP, PT)] [((some ⟨b0, o0, none⟩), c'', bvs (zs.take 32))]) := hid (S3.out.alloc hb hp hz)
  clear hp hz hb S3
  (try simp only [Act.put, List.getElem_toArray, List.getElem_cons_succ, List.getElem_cons_zero, List.setIfInBounds_toArray, List.set_cons_zero, List.set_cons_succ])
  refine wpLA_store rfl PT (.tmp 7) (.tmp 21) rfl p4 (vr) rfl rfl PT (zP) S4.out.cl.1 HVR.out.info (zP_is.size2 HVR.out) HVR.out.one ?_
  intro wx hb
  have S5 : Hid (St w (wx.setRow p4 (vr)) [(p4, vr, PT)] [((some ⟨b0, o0, none⟩), c'', bvs (zs.take 32))]) := hid ((S4.out.on hb).put 0 rfl N4.out)
  clear hb S4
  generalize wx.setRow p4 (vr) = w5 at S5 ⊢
  (try simp only [Act.put, List.getElem_toArray, List.getElem_cons_succ, List.getElem_cons_zero, List.setIfInBounds_toArray, List.set_cons_zero, List.set_cons_succ])
  refine wpLA_take (.bool true) (yG_val _ (by rfl) (fun w' _ => by (go_simp; try rfl))) ?_
  (try simp only [Act.put, List.getElem_toArray, List.getElem_cons_succ, List.getElem_cons_zero, List.setIfInBounds_toArray, List.set_cons_zero, List.set_cons_succ])
  refine wpLA_end ?_
  intro w6 hb
  have S6 := hid (S5.out.on hb)
  clear hb S5
  go_upto_region 4 with fail
  refine wpLA_start ?_
  refine wpLA_take (.slice (some ⟨b0, o0, none⟩) 64 c'') (yG_val _ (by rfl) (fun w' _ => by (go_simp; try rfl))) ?_
  (try simp only [Act.put, List.getElem_toArray, List.getElem_cons_succ, List.getElem_cons_zero, List.setIfInBounds_toArray, List.set_cons_zero, List.set_cons_succ])
  have HC7 : 64 ≤ c'' := by (have := (HS''.out.on6 S6.out.below).cap; rw [bvs_length, LZS.out] at this; exact this.1)
  refine wpLA_take (.slice (some ⟨b0, o0 + 32, none⟩) 32 (c'' - 32)) (yG_val _ (by rfl) (fun w' _ => by (have h1 : (64 : Int) ≤ ((c'' : Nat) : Int) := (by omega); have h2 : (32 : Int) ≤ ((c'' : Nat) : Int) := (by omega); clear HC7; go_simp; try omega; try rfl))) ?_
  (try simp only [Act.put, List.getElem_toArray, List.getElem_cons_succ, List.getElem_cons_zero, List.setIfInBounds_toArray, List.set_cons_zero, List.set_cons_succ])
  have S7 : Hid (St w w6 [(p4, vr, PT)] [((some ⟨b0, o0 + 32, none⟩), (c'' - 32), bvs (zs.drop 32)), ((some ⟨b0, o0, none⟩), c'', bvs (zs.take 32))]) := hid (S6.out.more (sq_drop (HS''.out.on6 S6.out.below) 32 (by rw [LZS.out]; decide)))
  clear HC7 S6
  refine wpLA_take (.tuple #[(.agg (sF e1)), (.bool false)]) (yG_call (by rfl) (fun w' => by go_simp) (fun w' hb => KX.out _ _ w' (S7.out.on hb).sq.1)) ?_
  (try simp only [Act.put, List.getElem_toArray, List.getElem_cons_succ, List.getElem_cons_zero, List.setIfInBounds_toArray, List.set_cons_zero, List.set_cons_succ])
  refine wpLA_take (.tuple #[(.agg (sF e1)), (.bool false)]) (yG_val _ (by rfl) (fun w' _ => by (go_simp; try rfl))) ?_
  (try simp only [Act.put, List.getElem_toArray, List.getElem_cons_succ, List.getElem_cons_zero, List.setIfInBounds_toArray, List.set_cons_zero, List.set_cons_succ])
  refine wpLA_take (.agg (sF e1)) (yG_val _ (by rfl) (fun w' _ => by (go_simp; try rfl))) ?_
  (try simp only [Act.put, List.getElem_toArray, List.getElem_cons_succ, List.getElem_cons_zero, List.setIfInBounds_toArray, List.set_cons_zero, List.set_cons_succ])
  refine wpLA_take (.bool false) (yG_val _ (by rfl) (fun w' _ => by (go_simp; try rfl))) ?_
  (try simp only [Act.put, List.getElem_toArray, List.getElem_cons_succ, List.getElem_cons_zero, List.setIfInBounds_toArray, List.set_cons_zero, List.set_cons_succ])
  refine wpLA_alloc (by rfl) rfl zeroS0 ?_
  intro p8 w8 hp hz hb
  have N8 := hid (S7.out.sq.far hp)
  have S8 : Hid (St w w8 [(p8, sF 0, ST), (p4, vr, PT)] [((some ⟨b0, o0 + 32, none⟩), (c'' - 32), bvs (zs.drop 32)), ((some ⟨b0, o0, none⟩), c'', bvs (zs.take 32))]) := hid (S7.out.alloc hb hp hz)
  clear hp hz hb S7
  (try simp only [Act.put, List.getElem_toArray, List.getElem_cons_succ, List.getElem_cons_zero, List.setIfInBounds_toArray, List.set_cons_zero, List.set_cons_succ])
  refine wpLA_store rfl ST (.tmp 9) (.tmp 27) rfl p8 (sF e1) rfl rfl ST (sF 0) S8.out.cl.1 (infoSF e1) rfl (oneSF e1) ?_
  intro wx hb
  have S9 : Hid (St w (wx.setRow p8 (sF e1)) [(p8, sF e1, ST), (p4, vr, PT)] [((some ⟨b0, o0 + 32, none⟩), (c'' - 32), bvs (zs.drop 32)), ((some ⟨b0, o0, none⟩), c'', bvs (zs.take 32))]) := hid ((S8.out.on hb).put 0 rfl N8.out)
  clear hb S8
  generalize wx.setRow p8 (sF e1) = w9 at S9 ⊢
  (try simp only [Act.put, List.getElem_toArray, List.getElem_cons_succ, List.getElem_cons_zero, List.setIfInBounds_toArray, List.set_cons_zero, List.set_cons_succ])
  refine wpLA_take (.bool false) (yG_val _ (by rfl) (fun w' _ => by (go_simp; try rfl))) ?_
  (try simp only [Act.put, List.getElem_toArray, List.getElem_cons_succ, List.getElem_cons_zero, List.setIfInBounds_toArray, List.set_cons_zero, List.set_cons_succ])
  refine wpLA_end ?_
  intro w10 hb
  have S10 := hid (S9.out.on hb)
  clear hb S9
  go_upto_region 5 with fail
  refine wpLA_start ?_
  refine wpLA_take (.slice A (xs.length) c) (yG_val _ (by rfl) (fun w' _ => by (go_simp; try rfl))) ?_
  (try simp only [Act.put, List.getElem_toArray, List.getElem_cons_succ, List.getElem_cons_zero, List.setIfInBounds_toArray, List.set_cons_zero, List.set_cons_succ])
  refine wpLA_take (.tuple #[(.agg (va)), (.bool q3)]) (yG_call (by rfl) (fun w' => by go_simp) (fun w' hb => KA.out _ _ w' (HS.out.on6 ((S10.out.on hb).below)))) ?_
  (try simp only [Act.put, List.getElem_toArray, List.getElem_cons_succ, List.getElem_cons_zero, List.setIfInBounds_toArray, List.set_cons_zero, List.set_cons_succ])
  refine wpLA_take (.tuple #[(.agg (va)), (.bool q3)]) (yG_val _ (by rfl) (fun w' _ => by (go_simp; try rfl))) ?_
  (try simp only [Act.put, List.getElem_toArray, List.getElem_cons_succ, List.getElem_cons_zero, List.setIfInBounds_toArray, List.set_cons_zero, List.set_cons_succ])
  refine wpLA_take (.agg (va)) (yG_val _ (by rfl) (fun w' _ => by (go_simp; try rfl))) ?_
  (try simp only [Act.put, List.getElem_toArray, List.getElem_cons_succ, List.getElem_cons_zero, List.setIfInBounds_toArray, List.set_cons_zero, List.set_cons_succ])
  refine wpLA_take (.bool q3) (yG_val _ (by rfl) (fun w' _ => by (go_simp; try rfl))) ?_
  (try simp only [Act.put, List.getElem_toArray, List.getElem_cons_succ, List.getElem_cons_zero, List.setIfInBounds_toArray, List.set_cons_zero, List.set_cons_succ])
  refine wpLA_alloc (by rfl) rfl zeroP ?_
  intro p11 w11 hp hz hb
  have N11 := hid (S10.out.sq.far hp)
  have S11 : Hid (St w w11 [(p11, zP, PT), (p8, sF e1, ST), (p4, vr, PT)] [((some ⟨b0, o0 + 32, none⟩), (c'' - 32), bvs (zs.drop 32)), ((some ⟨b0, o0, none⟩), c'', bvs (zs.take 32))]) := hid (S10.out.alloc hb hp hz)
  clear hp hz hb S10
  (try simp only [Act.put, List.getElem_toArray, List.getElem_cons_succ, List.getElem_cons_zero, List.setIfInBounds_toArray, List.set_cons_zero, List.set_cons_succ])
  refine wpLA_store rfl PT (.tmp 11) (.tmp 32) rfl p11 (va) rfl rfl PT (zP) S11.out.cl.1 HVA.out.info (zP_is.size2 HVA.out) HVA.out.one ?_
  intro wx hb
  have S12 : Hid (St w (wx.setRow p11 (va)) [(p11, va, PT), (p8, sF e1, ST), (p4, vr, PT)] [((some ⟨b0, o0 + 32, none⟩), (c'' - 32), bvs (zs.drop 32)), ((some ⟨b0, o0, none⟩), c'', bvs (zs.take 32))]) := hid ((S11.out.on hb).put 0 rfl N11.out)
  clear hb S11
  generalize wx.setRow p11 (va) = w12 at S12 ⊢
  (try simp only [Act.put, List.getElem_toArray, List.getElem_cons_succ, List.getElem_cons_zero, List.setIfInBounds_toArray, List.set_cons_zero, List.set_cons_succ])
  refine wpLA_take (.bool q3) (yG_val _ (by rfl) (fun w' _ => by (go_simp; try rfl))) ?_
  (try simp only [Act.put, List.getElem_toArray, List.getElem_cons_succ, List.getElem_cons_zero, List.setIfInBounds_toArray, List.set_cons_zero, List.set_cons_succ])
  refine wpLA_end ?_
  intro w13 hb
  have S13 := hid (S12.out.on hb)
  clear hb S12
  go_upto_region 6 with fail
  refine wpLA_start ?_
  refine wpLA_take (.bool true) (yG_val _ (by rfl) (fun w' _ => by (go_simp; try rfl))) ?_
  (try simp only [Act.put, List.getElem_toArray, List.getElem_cons_succ, List.getElem_cons_zero, List.setIfInBounds_toArray, List.set_cons_zero, List.set_cons_succ])
  refine wpLA_take (.bool false) (yG_val _ (by rfl) (fun w' _ => by (go_simp; try rfl))) ?_
  (try simp only [Act.put, List.getElem_toArray, List.getElem_cons_succ, List.getElem_cons_zero, List.setIfInBounds_toArray, List.set_cons_zero, List.set_cons_succ])
  refine wpLA_take (.bool false) (yG_val _ (by rfl) (fun w' _ => by (go_simp; try rfl))) ?_
  (try simp only [Act.put, List.getElem_toArray, List.getElem_cons_succ, List.getElem_cons_zero, List.setIfInBounds_toArray, List.set_cons_zero, List.set_cons_succ])
  refine wpLA_take (.bool false) (yG_val _ (by rfl) (fun w' _ => by (go_simp; try rfl))) ?_
  (try simp only [Act.put, List.getElem_toArray, List.getElem_cons_succ, List.getElem_cons_zero, List.setIfInBounds_toArray, List.set_cons_zero, List.set_cons_succ])
  refine wpLA_take (.bool true) (yG_val _ (by rfl) (fun w' _ => by (go_simp; try rfl))) ?_
  (try simp only [Act.put, List.getElem_toArray, List.getElem_cons_succ, List.getElem_cons_zero, List.setIfInBounds_toArray, List.set_cons_zero, List.set_cons_succ])
  refine wpLA_take (.bool true) (yG_val _ (by rfl) (fun w' _ => by (go_simp; try rfl))) ?_
  (try simp only [Act.put, List.getElem_toArray, List.getElem_cons_succ, List.getElem_cons_zero, List.setIfInBounds_toArray, List.set_cons_zero, List.set_cons_succ])
  refine wpLA_take (.bool true) (yG_val _ (by rfl) (fun w' _ => by (go_simp; try rfl))) ?_
  (try simp only [Act.put, List.getElem_toArray, List.getElem_cons_succ, List.getElem_cons_zero, List.setIfInBounds_toArray, List.set_cons_zero, List.set_cons_succ])
  refine wpLA_take undef (yG_skip (by rfl)) ?_
  (try simp only [Act.put, List.getElem_toArray, List.getElem_cons_succ, List.getElem_cons_zero, List.setIfInBounds_toArray, List.set_cons_zero, List.set_cons_succ])
  refine wpLA_take undef (yG_skip (by rfl)) ?_
  (try simp only [Act.put, List.getElem_toArray, List.getElem_cons_succ, List.getElem_cons_zero, List.setIfInBounds_toArray, List.set_cons_zero, List.set_cons_succ])
  refine wpLA_take (.bool true) (yG_val _ (by rfl) (fun w' _ => by (go_simp; try rfl))) ?_
  (try simp only [Act.put, List.getElem_toArray, List.getElem_cons_succ, List.getElem_cons_zero, List.setIfInBounds_toArray, List.set_cons_zero, List.set_cons_succ])
  refine wpLA_end ?_
  intro w14 hb
  have S14 := hid (S13.out.on hb)
  clear hb S13
  go_upto_region 7 with fail
  refine wpLA_start ?_
  refine wpLA_take (.bool false) (yG_val _ (by rfl) (fun w' _ => by (go_simp; try rfl))) ?_
  (try simp only [Act.put, List.getElem_toArray, List.getElem_cons_succ, List.getElem_cons_zero, List.setIfInBounds_toArray, List.set_cons_zero, List.set_cons_succ])
  refine wpLA_end ?_
  intro w15 hb
  have S15 := hid (S14.out.on hb)
  clear hb S14
  go_wp2_with fail
  go_ret
  exact ⟨rfl, S15.out.below⟩
set_option maxHeartbeats 2000000 in
theorem Holds_a (A : Option Addr) (xs : List UInt8) (c : Nat) (A'' : Option Addr) (zs : List UInt8) (c'' : Nat) (A' : Option Addr) (ls : List (List UInt8)) (c' m : Nat) (w : World) (hG : GlobL w) (hS : Sq w w.heap.size A c (bvs xs)) (hS'' : Sq w w.heap.size A'' c'' (bvs zs)) (hR : Rows2' w w.heap.size A' ls) (hm : ls.length = m) (hm2 : m ≤ 10) (hl : ls.flatten.length ≤ 10000) (hx : xs.length ≤ 10000) (h64 : zs.length = 64) (hr : (ptOf (zs.take 32)).isSome = true) (hx2 : exB (zs.drop 32) = true) (ha : ptOf xs = none) :
    Calls Tryz.prog 31 #[.slice A xs.length c, .slice A'' 64 c'', .slice A' m c'] w fun e w' => e = .returned (.bool false) ∧ Below w.heap.size w w' := by
  obtain ⟨b0, o0, rfl, -⟩ := hS''.form (by rw [bvs_length]; omega)
  have HS := hid hS; have HS'' := hid hS''; have HR := hid hR; have HG := hid hG; have LZS := hid h64; have HM := hid hm
  have l32 : (zs.take 32).length = 32 := by rw [List.length_take, h64]; rfl
  have d32 : (zs.drop 32).length = 32 := by rw [List.length_drop, h64]
  have L32 := hid l32
  obtain ⟨vr, hvr, KR⟩ := CvOf (zs.take 32) (by omega)
  obtain ⟨va, hva, KA⟩ := CvOf xs (by omega)
  rw [l32] at KR
  have HVR := hid hvr; have HVA := hid hva
  obtain ⟨e1, he1⟩ : ∃ e : SF, e.val = exN (zs.drop 32) := ⟨⟨exN (zs.drop 32), exN_ltS _⟩, rfl⟩
  have KX : Hid (∀ (A : Option Addr) (c : Nat) (W : World), Sq W W.heap.size A c (bvs (zs.drop 32)) → Calls Tryz.prog 53 #[.slice A 32 c] W fun e w' => e = .returned (.tuple #[.agg (sF e1), .bool (exB (zs.drop 32))]) ∧ Below W.heap.size W w') := hid fun A c W h => by
    have := ScExact_e A (zs.drop 32) c W h (by omega)
    rw [d32, ← he1] at this; exact this
  rw [hr] at KR
  rw [hx2] at KX
  rw [ha] at KA
  simp only [Option.isSome_none] at KA
  clear hr hx2 ha
  clear hG hS hS'' hR hm hm2 hl hx h64 l32 d32 hvr hva he1
  go_enter Tryz.func31, Tryz.ntmps31
  have S0 : Hid (St w w [] []) := hid (St.start w)
  go_upto_region 0 with fail
  refine wpLA_start ?_
  refine wpLA_take (.bool false) (yG_val _ (by rfl) (fun w' _ => by (go_simp; try rfl))) ?_
  (try simp only [Act.put, List.getElem_toArray, List.getElem_cons_succ, List.getElem_cons_zero, List.setIfInBounds_toArray, List.set_cons_zero, List.set_cons_succ])
  refine wpLA_end ?_
  intro w1 hb
  have S1 := hid (S0.out.on hb)
  clear hb S0
  go_upto_region 1 with fail
  refine wpLA_start ?_
  refine wpLA_take (.slice (some ⟨b0, o0, none⟩) 64 c'') (yG_val _ (by rfl) (fun w' _ => by (go_simp; try rfl))) ?_
  (try simp only [Act.put, List.getElem_toArray, List.getElem_cons_succ, List.getElem_cons_zero, List.setIfInBounds_toArray, List.set_cons_zero, List.set_cons_succ])
  refine wpLA_take (.int .i64 64) (yG_val _ (by rfl) (fun w' _ => by (go_simp; try rfl))) ?_
  (try simp only [Act.put, List.getElem_toArray, List.getElem_cons_succ, List.getElem_cons_zero, List.setIfInBounds_toArray, List.set_cons_zero, List.set_cons_succ])
  refine wpLA_take (.bool false) (yG_val _ (by rfl) (fun w' _ => by (go_simp; try rfl))) ?_
  (try simp only [Act.put, List.getElem_toArray, List.getElem_cons_succ, List.getElem_cons_zero, List.setIfInBounds_toArray, List.set_cons_zero, List.set_cons_succ])
  refine wpLA_end ?_
  intro w2 hb
  have S2 := hid (S1.out.on hb)
  clear hb S1
  go_upto_region 3 with fail
  refine wpLA_start ?_
  refine wpLA_take (.slice (some ⟨b0, o0, none⟩) 64 c'') (yG_val _ (by rfl) (fun w' _ => by (go_simp; try rfl))) ?_
  (try simp only [Act.put, List.getElem_toArray, List.getElem_cons_succ, List.getElem_cons_zero, List.setIfInBounds_toArray, List.set_cons_zero, List.set_cons_succ])
  have HC3 : 64 ≤ c'' := by (have := (HS''.out.on6 S2.out.below).cap; rw [bvs_length, LZS.out] at this; exact this.1)
  refine wpLA_take (.slice (some ⟨b0, o0, none⟩) 32 c'') (yG_val _ (by rfl) (fun w' _ => by (have h1 : (64 : Int) ≤ ((c'' : Nat) : Int) := (by omega); have h2 : (32 : Int) ≤ ((c'' : Nat) : Int) := (by omega); clear HC3; go_simp; try omega; try rfl))) ?_
  (try simp only [Act.put, List.getElem_toArray, List.getElem_cons_succ, List.getElem_cons_zero, List.setIfInBounds_toArray, List.set_cons_zero, List.set_cons_succ])
  have S3 : Hid (St w w2 [] [((some ⟨b0, o0, none⟩), c'', bvs (zs.take 32))]) := hid (S2.out.more (sq_take (HS''.out.on6 S2.out.below) 32))
  clear HC3 S2
  refine wpLA_take (.tuple #[(.agg (vr)), (.bool true)]) (yG_call (by rfl) (fun w' => by go_simp) (fun w' hb => KR.out _ _ w' (S3.out.on hb).sq.1)) ?_
  (try simp only [Act.put, List.getElem_toArray, List.getElem_cons_succ, List.getElem_cons_zero, List.setIfInBounds_toArray, List.set_cons_zero, List.set_cons_succ])
  refine wpLA_take (.tuple #[(.agg (vr)), (.bool true)]) (yG_val _ (by rfl) (fun w' _ => by (go_simp; try rfl))) ?_
  (try simp only [Act.put, List.getElem_toArray, List.getElem_cons_succ, List.getElem_cons_zero, List.setIfInBounds_toArray, List.set_cons_zero, List.set_cons_succ])
  refine wpLA_take (.agg (vr)) (yG_val _ (by rfl) (fun w' _ => by (go_simp; try rfl))) ?_
  (try simp only [Act.put, List.getElem_toArray, List.getElem_cons_succ, List.getElem_cons_zero, List.setIfInBounds_toArray, List.set_cons_zero, List.set_cons_succ])
  refine wpLA_take (.bool true) (yG_val _ (by rfl) (fun w' _ => by (go_simp; try rfl))) ?_
  (try simp only [Act.put, List.getElem_toArray, List.getElem_cons_succ, List.getElem_cons_zero, List.setIfInBounds_toArray, List.set_cons_zero, List.set_cons_succ])
  refine wpLA_alloc (by rfl) rfl zeroP ?_
  intro p4 w4 hp hz hb
  have N4 := hid (S3.out.sq.far hp)
  have S4 : Hid (St w w4 [(p4, zP, PT)] [((some ⟨b0, o0, none⟩), c'', bvs (zs.take 32))]) := hid (S3.out.alloc hb hp hz)
  clear hp hz hb S3
  (try simp only [Act.put, List.getElem_toArray, List.getElem_cons_succ, List.getElem_cons_zero, List.setIfInBounds_toArray, List.set_cons_zero, List.set_cons_succ])
  refine wpLA_store rfl PT (.tmp 7) (.tmp 21) rfl p4 (vr) rfl rfl PT (zP) S4.out.cl.1 HVR.out.info (zP_is.size2 HVR.out) HVR.out.one ?_
  intro wx hb
  have S5 : Hid (St w (wx.setRow p4 (vr)) [(p4, vr, PT)] [((some ⟨b0, o0, none⟩), c'', bvs (zs.take 32))]) := hid ((S4.out.on hb).put 0 rfl N4.out)
  clear hb S4
  generalize wx.setRow p4 (vr) = w5 at S5 ⊢
  (try simp only [Act.put, List.getElem_toArray, List.getElem_cons_succ, List.getElem_cons_zero, List.setIfInBounds_toArray, List.set_cons_zero, List.set_cons_succ])
  refine wpLA_take (.bool true) (yG_val _ (by rfl) (fun w' _ => by (go_simp; try rfl))) ?_
  (try simp only [Act.put, List.getElem_toArray, List.getElem_cons_succ, List.getElem_cons_zero, List.setIfInBounds_toArray, List.set_cons_zero, List.set_cons_succ])
  refine wpLA_end ?_
  intro w6 hb
  have S6 := hid (S5.out.on hb)
  clear hb S5
  go_upto_region 4 with fail
  refine wpLA_start ?_
  refine wpLA_take (.slice (some ⟨b0, o0, none⟩) 64 c'') (yG_val _ (by rfl) (fun w' _ => by (go_simp; try rfl))) ?_
  (try simp only [Act.put, List.getElem_toArray, List.getElem_cons_succ, List.getElem_cons_zero, List.setIfInBounds_toArray, List.set_cons_zero, List.set_cons_succ])
  have HC7 : 64 ≤ c'' := by (have := (HS''.out.on6 S6.out.below).cap; rw [bvs_length, LZS.out] at this; exact this.1)
  refine wpLA_take (.slice (some ⟨b0, o0 + 32, none⟩) 32 (c'' - 32)) (yG_val _ (by rfl) (fun w' _ => by (have h1 : (64 : Int) ≤ ((c'' : Nat) : Int) := (by omega); have h2 : (32 : Int) ≤ ((c'' : Nat) : Int) := (by omega); clear HC7; go_simp; try omega; try rfl))) ?_
  (try simp only [Act.put, List.getElem_toArray, List.getElem_cons_succ, List.getElem_cons_zero, List.setIfInBounds_toArray, List.set_cons_zero, List.set_cons_succ])
  have S7 : Hid (St w w6 [(p4, vr, PT)] [((some ⟨b0, o0 + 32, none⟩), (c'' - 32), bvs (zs.drop 32)), ((some ⟨b0, o0, none⟩), c'', bvs (zs.take 32))]) := hid (S6.out.more (sq_drop (HS''.out.on6 S6.out.below) 32 (by rw [LZS.out]; decide)))
  clear HC7 S6
  refine wpLA_take (.tuple #[(.agg (sF e1)), (.bool true)]) (yG_call (by rfl) (fun w' => by go_simp) (fun w' hb => KX.out _ _ w' (S7.out.on hb).sq.1)) ?_
  (try simp only [Act.put, List.getElem_toArray, List.getElem_cons_succ, List.getElem_cons_zero, List.setIfInBounds_toArray, List.set_cons_zero, List.set_cons_succ])
  refine wpLA_take (.tuple #[(.agg (sF e1)), (.bool true)]) (yG_val _ (by rfl) (fun w' _ => by (go_simp; try rfl))) ?_
  (try simp only [Act.put, List.getElem_toArray, List.getElem_cons_succ, List.getElem_cons_zero, List.setIfInBounds_toArray, List.set_cons_zero, List.set_cons_succ])
  refine wpLA_take (.agg (sF e1)) (yG_val _ (by rfl) (fun w' _ => by (go_simp; try rfl))) ?_
  (try simp only [Act.put, List.getElem_toArray, List.getElem_cons_succ, List.getElem_cons_zero, List.setIfInBounds_toArray, List.set_cons_zero, List.set_cons_succ])
  refine wpLA_take (.bool true) (yG_val _ (by rfl) (fun w' _ => by (go_simp; try rfl))) ?_
  (try simp only [Act.put, List.getElem_toArray, List.getElem_cons_succ, List.getElem_cons_zero, List.setIfInBounds_toArray, List.set_cons_zero, List.set_cons_succ])
  refine wpLA_alloc (by rfl) rfl zeroS0 ?_
  intro p8 w8 hp hz hb
  have N8 := hid (S7.out.sq.far hp)
  have S8 : Hid (St w w8 [(p8, sF 0, ST), (p4, vr, PT)] [((some ⟨b0, o0 + 32, none⟩), (c'' - 32), bvs (zs.drop 32)), ((some ⟨b0, o0, none⟩), c'', bvs (zs.take 32))]) := hid (S7.out.alloc hb hp hz)
  clear hp hz hb S7
  (try simp only [Act.put, List.getElem_toArray, List.getElem_cons_succ, List.getElem_cons_zero, List.setIfInBounds_toArray, List.set_cons_zero, List.set_cons_succ])
  refine wpLA_store rfl ST (.tmp 9) (.tmp 27) rfl p8 (sF e1) rfl rfl ST (sF 0) S8.out.cl.1 (infoSF e1) rfl (oneSF e1) ?_
  intro wx hb
  have S9 : Hid (St w (wx.setRow p8 (sF e1)) [(p8, sF e1, ST), (p4, vr, PT)] [((some ⟨b0, o0 + 32, none⟩), (c'' - 32), bvs (zs.drop 32)), ((some ⟨b0, o0, none⟩), c'', bvs (zs.take 32))]) := hid ((S8.out.on hb).put 0 rfl N8.out)
  clear hb S8
  generalize wx.setRow p8 (sF e1) = w9 at S9 ⊢
  (try simp only [Act.put, List.getElem_toArray, List.getElem_cons_succ, List.getElem_cons_zero, List.setIfInBounds_toArray, List.set_cons_zero, List.set_cons_succ])
  refine wpLA_take (.bool true) (yG_val _ (by rfl) (fun w' _ => by (go_simp; try rfl))) ?_
  (try simp only [Act.put, List.getElem_toArray, List.getElem_cons_succ, List.getElem_cons_zero, List.setIfInBounds_toArray, List.set_cons_zero, List.set_cons_succ])
  refine wpLA_end ?_
  intro w10 hb
  have S10 := hid (S9.out.on hb)
  clear hb S9
  go_upto_region 5 with fail
  refine wpLA_start ?_
  refine wpLA_take (.slice A (xs.length) c) (yG_val _ (by rfl) (fun w' _ => by (go_simp; try rfl))) ?_
  (try simp only [Act.put, List.getElem_toArray, List.getElem_cons_succ, List.getElem_cons_zero, List.setIfInBounds_toArray, List.set_cons_zero, List.set_cons_succ])
  refine wpLA_take (.tuple #[(.agg (va)), (.bool false)]) (yG_call (by rfl) (fun w' => by go_simp) (fun w' hb => KA.out _ _ w' (HS.out.on6 ((S10.out.on hb).below)))) ?_
  (try simp only [Act.put, List.getElem_toArray, List.getElem_cons_succ, List.getElem_cons_zero, List.setIfInBounds_toArray, List.set_cons_zero, List.set_cons_succ])
  refine wpLA_take (.tuple #[(.agg (va)), (.bool false)]) (yG_val _ (by rfl) (fun w' _ => by (go_simp; try rfl))) ?_
  (try simp only [Act.put, List.getElem_toArray, List.getElem_cons_succ, List.getElem_cons_zero, List.setIfInBounds_toArray, List.set_cons_zero, List.set_cons_succ])
  refine wpLA_take (.agg (va)) (yG_val _ (by rfl) (fun w' _ => by (go_simp; try rfl))) ?_
  (try simp only [Act.put, List.getElem_toArray, List.getElem_cons_succ, List.getElem_cons_zero, List.setIfInBounds_toArray, List.set_cons_zero, List.set_cons_succ])
  refine wpLA_take (.bool false) (yG_val _ (by rfl) (fun w' _ => by (go_simp; try rfl))) ?_
  (try simp only [Act.put, List.getElem_toArray, List.getElem_cons_succ, List.getElem_cons_zero, List.setIfInBounds_toArray, List.set_cons_zero, List.set_cons_succ])
  refine wpLA_alloc (by rfl) rfl zeroP ?_
  intro p11 w11 hp hz hb
  have N11 := hid (S10.out.sq.far hp)
  have S11 : Hid (St w w11 [(p11, zP, PT), (p8, sF e1, ST), (p4, vr, PT)] [((some ⟨b0, o0 + 32, none⟩), (c'' - 32), bvs (zs.drop 32)), ((some ⟨b0, o0, none⟩), c'', bvs (zs.take 32))]) := hid (S10.out.alloc hb hp hz)
  clear hp hz hb S10
  (try simp only [Act.put, List.getElem_toArray, List.getElem_cons_succ, List.getElem_cons_zero, List.setIfInBounds_toArray, List.set_cons_zero, List.set_cons_succ])
  refine wpLA_store rfl PT (.tmp 11) (.tmp 32) rfl p11 (va) rfl rfl PT (zP) S11.out.cl.1 HVA.out.info (zP_is.size2 HVA.out) HVA.out.one ?_
  intro wx hb
  have S12 : Hid (St w (wx.setRow p11 (va)) [(p11, va, PT), (p8, sF e1, ST), (p4, vr, PT)] [((some ⟨b0, o0 + 32, none⟩), (c'' - 32), bvs (zs.drop 32)), ((some ⟨b0, o0, none⟩), c'', bvs (zs.take 32))]) := hid ((S11.out.on hb).put 0 rfl N11.out)
  clear hb S11
  generalize wx.setRow p11 (va) = w12 at S12 ⊢
  (try simp only [Act.put, List.getElem_toArray, List.getElem_cons_succ, List.getElem_cons_zero, List.setIfInBounds_toArray, List.set_cons_zero, List.set_cons_succ])
  refine wpLA_take (.bool false) (yG_val _ (by rfl) (fun w' _ => by (go_simp; try rfl))) ?_
  (try simp only [Act.put, List.getElem_toArray, List.getElem_cons_succ, List.getElem_cons_zero, List.setIfInBounds_toArray, List.set_cons_zero, List.set_cons_succ])
  refine wpLA_end ?_
  intro w13 hb
  have S13 := hid (S12.out.on hb)
  clear hb S12
  go_upto_region 6 with fail
  refine wpLA_start ?_
  refine wpLA_take (.bool true) (yG_val _ (by rfl) (fun w' _ => by (go_simp; try rfl))) ?_
  (try simp only [Act.put, List.getElem_toArray, List.getElem_cons_succ, List.getElem_cons_zero, List.setIfInBounds_toArray, List.set_cons_zero, List.set_cons_succ])
  refine wpLA_take (.bool false) (yG_val _ (by rfl) (fun w' _ => by (go_simp; try rfl))) ?_
  (try simp only [Act.put, List.getElem_toArray, List.getElem_cons_succ, List.getElem_cons_zero, List.setIfInBounds_toArray, List.set_cons_zero, List.set_cons_succ])
  refine wpLA_take (.bool false) (yG_val _ (by rfl) (fun w' _ => by (go_simp; try rfl))) ?_
  (try simp only [Act.put, List.getElem_toArray, List.getElem_cons_succ, List.getElem_cons_zero, List.setIfInBounds_toArray, List.set_cons_zero, List.set_cons_succ])
  refine wpLA_take (.bool true) (yG_val _ (by rfl) (fun w' _ => by (go_simp; try rfl))) ?_
  (try simp only [Act.put, List.getElem_toArray, List.getElem_cons_succ, List.getElem_cons_zero, List.setIfInBounds_toArray, List.set_cons_zero, List.set_cons_succ])
  refine wpLA_take (.bool false) (yG_val _ (by rfl) (fun w' _ => by (go_simp; try rfl))) ?_
  (try simp only [Act.put, List.getElem_toArray, List.getElem_cons_succ, List.getElem_cons_zero, List.setIfInBounds_toArray, List.set_cons_zero, List.set_cons_succ])
  refine wpLA_take (.bool false) (yG_val _ (by rfl) (fun w' _ => by (go_simp; try rfl))) ?_
  (try simp only [Act.put, List.getElem_toArray, List.getElem_cons_succ, List.getElem_cons_zero, List.setIfInBounds_toArray, List.set_cons_zero, List.set_cons_succ])
  refine wpLA_take (.bool false) (yG_val _ (by rfl) (fun w' _ => by (go_simp; try rfl))) ?_
  (try simp only [Act.put, List.getElem_toArray, List.getElem_cons_succ, List.getElem_cons_zero, List.setIfInBounds_toArray, List.set_cons_zero, List.set_cons_succ])
  refine wpLA_take (.bool false) (yG_val _ (by rfl) (fun w' _ => by (go_simp; try rfl))) ?_
  (try simp only [Act.put, List.getElem_toArray, List.getElem_cons_succ, List.getElem_cons_zero, List.setIfInBounds_toArray, List.set_cons_zero, List.set_cons_succ])
  refine wpLA_take (.bool true) (yG_val _ (by rfl) (fun w' _ => by (go_simp; try rfl))) ?_
  (try simp only [Act.put, List.getElem_toArray, List.getElem_cons_succ, List.getElem_cons_zero, List.setIfInBounds_toArray, List.set_cons_zero, List.set_cons_succ])
  refine wpLA_take (.bool true) (yG_val _ (by rfl) (fun w' _ => by (go_simp; try rfl))) ?_
  (try simp only [Act.put, List.getElem_toArray, List.getElem_cons_succ, List.getElem_cons_zero, List.setIfInBounds_toArray, List.set_cons_zero, List.set_cons_succ])
  refine wpLA_end ?_
  intro w14 hb
  have S14 := hid (S13.out.on hb)
  clear hb S13
  go_upto_region 7 with fail
  refine wpLA_start ?_
  refine wpLA_take (.bool false) (yG_val _ (by rfl) (fun w' _ => by (go_simp; try rfl))) ?_
  (try simp only [Act.put, List.getElem_toArray, List.getElem_cons_succ, List.getElem_cons_zero, List.setIfInBounds_toArray, List.set_cons_zero, List.set_cons_succ])
  refine wpLA_end ?_
  intro w15 hb
  have S15 := hid (S14.out.on hb)
  clear hb S14
  go_wp2_with fail
  go_ret
  exact ⟨rfl, S15.out.below⟩
set_option maxHeartbeats 2000000 in
theorem Holds_ok (A : Option Addr) (xs : List UInt8) (c : Nat) (A'' : Option Addr) (zs : List UInt8) (c'' : Nat) (A' : Option Addr) (ls : List (List UInt8)) (c' m : Nat) (w : World) (hG : GlobL w) (hS : Sq w w.heap.size A c (bvs xs)) (hS'' : Sq w w.heap.size A'' c'' (bvs zs)) (hR : Rows2' w w.heap.size A' ls) (hm : ls.length = m) (hm2 : m ≤ 10) (hl : ls.flatten.length ≤ 10000) (hx : xs.length ≤ 10000) (h64 : zs.length = 64) (hr : (ptOf (zs.take 32)).isSome = true) (hx2 : exB (zs.drop 32) = true) (ha : (ptOf xs).isSome = true) :
    Calls Tryz.prog 31 #[.slice A xs.length c, .slice A'' 64 c'', .slice A' m c'] w fun e w' => e = .returned (.bool (holdsB xs ls.flatten zs)) ∧ Below w.heap.size w w' := by
  obtain ⟨b0, o0, rfl, -⟩ := hS''.form (by rw [bvs_length]; omega)
  have HS := hid hS; have HS'' := hid hS''; have HR := hid hR; have HG := hid hG; have LZS := hid h64; have HM := hid hm
  have l32 : (zs.take 32).length = 32 := by rw [List.length_take, h64]; rfl
  have d32 : (zs.drop 32).length = 32 := by rw [List.length_drop, h64]
  have L32 := hid l32
  obtain ⟨vr, hvr, KR⟩ := CvOf (zs.take 32) (by omega)
  obtain ⟨va, hva, KA⟩ := CvOf xs (by omega)
  rw [l32] at KR
  have HVR := hid hvr; have HVA := hid hva
  obtain ⟨e1, he1⟩ : ∃ e : SF, e.val = exN (zs.drop 32) := ⟨⟨exN (zs.drop 32), exN_ltS _⟩, rfl⟩
  have KX : Hid (∀ (A : Option Addr) (c : Nat) (W : World), Sq W W.heap.size A c (bvs (zs.drop 32)) → Calls Tryz.prog 53 #[.slice A 32 c] W fun e w' => e = .returned (.tuple #[.agg (sF e1), .bool (exB (zs.drop 32))]) ∧ Below W.heap.size W w') := hid fun A c W h => by
    have := ScExact_e A (zs.drop 32) c W h (by omega)
    rw [d32, ← he1] at this; exact this
  rw [hr] at KR
  rw [hx2] at KX
  rw [ha] at KA
  obtain ⟨s2, hs2⟩ : ∃ s : SF, s = kS (zs.take 32) xs ls.flatten := ⟨_, rfl⟩
  obtain ⟨g, hg, KG⟩ := CvBase
  obtain ⟨g1, hg1, KM1⟩ := CvMul hg e1
  obtain ⟨g2, hg2, KM2⟩ := CvMul hva s2
  obtain ⟨g3, hg3, KAD⟩ := CvAdd hvr hg2
  obtain ⟨hv, hhv⟩ : ∃ b, b = holdsB xs ls.flatten zs := ⟨_, rfl⟩
  have hsm : decide (Pt.times e1.val Gb = (ptO (zs.take 32)).add (Pt.times s2.val (ptO xs))) = hv := by
    rw [hhv, he1, hs2]
    unfold holdsB
    rw [hr, ha, hx2, h64]
    simp
  have KSM := CvSame hg1 hg3
  rw [hsm] at KSM
  have HVG := hid hg; have HV1 := hid hg1; have HV2 := hid hg2; have HV3 := hid hg3
  have KN : Hid (∀ (A : Option Addr) (c : Nat) (A' : Option Addr) (c' : Nat) (W : World), GlobL W → Rows2' W W.heap.size A [zs.take 32, xs] → Rows2' W W.heap.size A' ls → Calls Tryz.prog 44 #[.slice A 2 c, .slice A' m c'] W fun e w' => e = .returned (.agg (sF s2)) ∧ Below W.heap.size W w') := hid fun A c A' c' W hG h h' =>
    Number_e A [zs.take 32, xs] c 2 A' ls c' m W hG h h' rfl hm (by decide) (by omega) (by simp only [List.cons_append, List.nil_append, List.flatten_cons, List.length_append]; omega) s2 (by rw [hs2]; unfold kS; simp)
  rw [← hhv]
  clear hG hS hS'' hR hm hm2 hl hx h64 l32 d32 hvr hva he1 hr hx2 ha hs2 hg hg1 hg2 hg3 hhv hsm
  go_enter Tryz.func31, Tryz.ntmps31
  have S0 : Hid (St w w [] []) := hid (St.start w)
  go_upto_region 0 with fail
  refine wpLA_start ?_
  refine wpLA_take (.bool false) (yG_val _ (by rfl) (fun w' _ => by (go_simp; try rfl))) ?_
  (try simp only [Act.put, List.getElem_toArray, List.getElem_cons_succ, List.getElem_cons_zero, List.setIfInBounds_toArray, List.set_cons_zero, List.set_cons_succ])
  refine wpLA_end ?_
  intro w1 hb
  have S1 := hid (S0.out.on hb)
  clear hb S0
  go_upto_region 1 with fail
  refine wpLA_start ?_
  refine wpLA_take (.slice (some ⟨b0, o0, none⟩) 64 c'') (yG_val _ (by rfl) (fun w' _ => by (go_simp; try rfl))) ?_
  (try simp only [Act.put, List.getElem_toArray, List.getElem_cons_succ, List.getElem_cons_zero, List.setIfInBounds_toArray, List.set_cons_zero, List.set_cons_succ])
  refine wpLA_take (.int .i64 64) (yG_val _ (by rfl) (fun w' _ => by (go_simp; try rfl))) ?_
  (try simp only [Act.put, List.getElem_toArray, List.getElem_cons_succ, List.getElem_cons_zero, List.setIfInBounds_toArray, List.set_cons_zero, List.set_cons_succ])
  refine wpLA_take (.bool false) (yG_val _ (by rfl) (fun w' _ => by (go_simp; try rfl))) ?_
  (try simp only [Act.put, List.getElem_toArray, List.getElem_cons_succ, List.getElem_cons_zero, List.setIfInBounds_toArray, List.set_cons_zero, List.set_cons_succ])
  refine wpLA_end ?_
  intro w2 hb
  have S2 := hid (S1.out.on hb)
  clear hb S1
  go_upto_region 3 with fail
  refine wpLA_start ?_
  refine wpLA_take (.slice (some ⟨b0, o0, none⟩) 64 c'') (yG_val _ (by rfl) (fun w' _ => by (go_simp; try rfl))) ?_
  (try simp only [Act.put, List.getElem_toArray, List.getElem_cons_succ, List.getElem_cons_zero, List.setIfInBounds_toArray, List.set_cons_zero, List.set_cons_succ])
  have HC3 : 64 ≤ c'' := by (have := (HS''.out.on6 S2.out.below).cap; rw [bvs_length, LZS.out] at this; exact this.1)
  refine wpLA_take (.slice (some ⟨b0, o0, none⟩) 32 c'') (yG_val _ (by rfl) (fun w' _ => by (have h1 : (64 : Int) ≤ ((c'' : Nat) : Int) := (by omega); have h2 : (32 : Int) ≤ ((c'' : Nat) : Int) := (by omega); clear HC3; go_simp; try omega; try rfl))) ?_
  (try simp only [Act.put, List.getElem_toArray, List.getElem_cons_succ, List.getElem_cons_zero, List.setIfInBounds_toArray, List.set_cons_zero, List.set_cons_succ])
  have S3 : Hid (St w w2 [] [((some ⟨b0, o0, none⟩), c'', bvs (zs.take 32))]) := hid (S2.out.more (sq_take (HS''.out.on6 S2.out.below) 32))
  clear HC3 S2
  refine wpLA_take (.tuple #[(.agg (vr)), (.bool true)]) (yG_call (by rfl) (fun w' => by go_simp) (fun w' hb => KR.out _ _ w' (S3.out.on hb).sq.1)) ?_
  (try simp only [Act.put, List.getElem_toArray, List.getElem_cons_succ, List.getElem_cons_zero, List.setIfInBounds_toArray, List.set_cons_zero, List.set_cons_succ])
  refine wpLA_take (.tuple #[(.agg (vr)), (.bool true)]) (yG_val _ (by rfl) (fun w' _ => by (go_simp; try rfl))) ?_
  (try simp only [Act.put, List.getElem_toArray, List.getElem_cons_succ, List.getElem_cons_zero, List.setIfInBounds_toArray, List.set_cons_zero, List.set_cons_succ])
  refine wpLA_take (.agg (vr)) (yG_val _ (by rfl) (fun w' _ => by (go_simp; try rfl))) ?_
  (try simp only [Act.put, List.getElem_toArray, List.getElem_cons_succ, List.getElem_cons_zero, List.setIfInBounds_toArray, List.set_cons_zero, List.set_cons_succ])
  refine wpLA_take (.bool true) (yG_val _ (by rfl) (fun w' _ => by (go_simp; try rfl))) ?_
  (try simp only [Act.put, List.getElem_toArray, List.getElem_cons_succ, List.getElem_cons_zero, List.setIfInBounds_toArray, List.set_cons_zero, List.set_cons_succ])
  refine wpLA_alloc (by rfl) rfl zeroP ?_
  intro p4 w4 hp hz hb
  have N4 := hid (S3.out.sq.far hp)
  have S4 : Hid (St w w4 [(p4, zP, PT)] [((some ⟨b0, o0, none⟩), c'', bvs (zs.take 32))]) := hid (S3.out.alloc hb hp hz)
  clear hp hz hb S3
  (try simp only [Act.put, List.getElem_toArray, List.getElem_cons_succ, List.getElem_cons_zero, List.setIfInBounds_toArray, List.set_cons_zero, List.set_cons_succ])
  refine wpLA_store rfl PT (.tmp 7) (.tmp 21) rfl p4 (vr) rfl rfl PT (zP) S4.out.cl.1 HVR.out.info (zP_is.size2 HVR.out) HVR.out.one ?_
  intro wx hb
  have S5 : Hid (St w (wx.setRow p4 (vr)) [(p4, vr, PT)] [((some ⟨b0, o0, none⟩), c'', bvs (zs.take 32))]) := hid ((S4.out.on hb).put 0 rfl N4.out)
  clear hb S4
  generalize wx.setRow p4 (vr) = w5 at S5 ⊢
  (try simp only [Act.put, List.getElem_toArray, List.getElem_cons_succ, List.getElem_cons_zero, List.setIfInBounds_toArray, List.set_cons_zero, List.set_cons_succ])
  refine wpLA_take (.bool true) (yG_val _ (by rfl) (fun w' _ => by (go_simp; try rfl))) ?_
  (try simp only [Act.put, List.getElem_toArray, List.getElem_cons_succ, List.getElem_cons_zero, List.setIfInBounds_toArray, List.set_cons_zero, List.set_cons_succ])
  refine wpLA_end ?_
  intro w6 hb
  have S6 := hid (S5.out.on hb)
  clear hb S5
  go_upto_region 4 with fail
  refine wpLA_start ?_
  refine wpLA_take (.slice (some ⟨b0, o0, none⟩) 64 c'') (yG_val _ (by rfl) (fun w' _ => by (go_simp; try rfl))) ?_
  (try simp only [Act.put, List.getElem_toArray, List.getElem_cons_succ, List.getElem_cons_zero, List.setIfInBounds_toArray, List.set_cons_zero, List.set_cons_succ])
  have HC7 : 64 ≤ c'' := by (have := (HS''.out.on6 S6.out.below).cap; rw [bvs_length, LZS.out] at this; exact this.1)
  refine wpLA_take (.slice (some ⟨b0, o0 + 32, none⟩) 32 (c'' - 32)) (yG_val _ (by rfl) (fun w' _ => by (have h1 : (64 : Int) ≤ ((c'' : Nat) : Int) := (by omega); have h2 : (32 : Int) ≤ ((c'' : Nat) : Int) := (by omega); clear HC7; go_simp; try omega; try rfl))) ?_
  (try simp only [Act.put, List.getElem_toArray, List.getElem_cons_succ, List.getElem_cons_zero, List.setIfInBounds_toArray, List.set_cons_zero, List.set_cons_succ])
  have S7 : Hid (St w w6 [(p4, vr, PT)] [((some ⟨b0, o0 + 32, none⟩), (c'' - 32), bvs (zs.drop 32)), ((some ⟨b0, o0, none⟩), c'', bvs (zs.take 32))]) := hid (S6.out.more (sq_drop (HS''.out.on6 S6.out.below) 32 (by rw [LZS.out]; decide)))
  clear HC7 S6
  refine wpLA_take (.tuple #[(.agg (sF e1)), (.bool true)]) (yG_call (by rfl) (fun w' => by go_simp) (fun w' hb => KX.out _ _ w' (S7.out.on hb).sq.1)) ?_
  (try simp only [Act.put, List.getElem_toArray, List.getElem_cons_succ, List.getElem_cons_zero, List.setIfInBounds_toArray, List.set_cons_zero, List.set_cons_succ])
  refine wpLA_take (.tuple #[(.agg (sF e1)), (.bool true)]) (yG_val _ (by rfl) (fun w' _ => by (go_simp; try rfl))) ?_
  (try simp only [Act.put, List.getElem_toArray, List.getElem_cons_succ, List.getElem_cons_zero, List.setIfInBounds_toArray, List.set_cons_zero, List.set_cons_succ])
  refine wpLA_take (.agg (sF e1)) (yG_val _ (by rfl) (fun w' _ => by (go_simp; try rfl))) ?_
  (try simp only [Act.put, List.getElem_toArray, List.getElem_cons_succ, List.getElem_cons_zero, List.setIfInBounds_toArray, List.set_cons_zero, List.set_cons_succ])
  refine wpLA_take (.bool true) (yG_val _ (by rfl) (fun w' _ => by (go_simp; try rfl))) ?_
  (try simp only [Act.put, List.getElem_toArray, List.getElem_cons_succ, List.getElem_cons_zero, List.setIfInBounds_toArray, List.set_cons_zero, List.set_cons_succ])
  refine wpLA_alloc (by rfl) rfl zeroS0 ?_
  intro p8 w8 hp hz hb
  have N8 := hid (S7.out.sq.far hp)
  have S8 : Hid (St w w8 [(p8, sF 0, ST), (p4, vr, PT)] [((some ⟨b0, o0 + 32, none⟩), (c'' - 32), bvs (zs.drop 32)), ((some ⟨b0, o0, none⟩), c'', bvs (zs.take 32))]) := hid (S7.out.alloc hb hp hz)
  clear hp hz hb S7
  (try simp only [Act.put, List.getElem_toArray, List.getElem_cons_succ, List.getElem_cons_zero, List.setIfInBounds_toArray, List.set_cons_zero, List.set_cons_succ])
  refine wpLA_store rfl ST (.tmp 9) (.tmp 27) rfl p8 (sF e1) rfl rfl ST (sF 0) S8.out.cl.1 (infoSF e1) rfl (oneSF e1) ?_
  intro wx hb
  have S9 : Hid (St w (wx.setRow p8 (sF e1)) [(p8, sF e1, ST), (p4, vr, PT)] [((some ⟨b0, o0 + 32, none⟩), (c'' - 32), bvs (zs.drop 32)), ((some ⟨b0, o0, none⟩), c'', bvs (zs.take 32))]) := hid ((S8.out.on hb).put 0 rfl N8.out)
  clear hb S8
  generalize wx.setRow p8 (sF e1) = w9 at S9 ⊢
  (try simp only [Act.put, List.getElem_toArray, List.getElem_cons_succ, List.getElem_cons_zero, List.setIfInBounds_toArray, List.set_cons_zero, List.set_cons_succ])
  refine wpLA_take (.bool true) (yG_val _ (by rfl) (fun w' _ => by (go_simp; try rfl))) ?_
  (try simp only [Act.put, List.getElem_toArray, List.getElem_cons_succ, List.getElem_cons_zero, List.setIfInBounds_toArray, List.set_cons_zero, List.set_cons_succ])
  refine wpLA_end ?_
  intro w10 hb
  have S10 := hid (S9.out.on hb)
  clear hb S9
  go_upto_region 5 with fail
  refine wpLA_start ?_
  refine wpLA_take (.slice A (xs.length) c) (yG_val _ (by rfl) (fun w' _ => by (go_simp; try rfl))) ?_
  (try simp only [Act.put, List.getElem_toArray, List.getElem_cons_succ, List.getElem_cons_zero, List.setIfInBounds_toArray, List.set_cons_zero, List.set_cons_succ])
  refine wpLA_take (.tuple #[(.agg (va)), (.bool true)]) (yG_call (by rfl) (fun w' => by go_simp) (fun w' hb => KA.out _ _ w' (HS.out.on6 ((S10.out.on hb).below)))) ?_
  (try simp only [Act.put, List.getElem_toArray, List.getElem_cons_succ, List.getElem_cons_zero, List.setIfInBounds_toArray, List.set_cons_zero, List.set_cons_succ])
  refine wpLA_take (.tuple #[(.agg (va)), (.bool true)]) (yG_val _ (by rfl) (fun w' _ => by (go_simp; try rfl))) ?_
  (try simp only [Act.put, List.getElem_toArray, List.getElem_cons_succ, List.getElem_cons_zero, List.setIfInBounds_toArray, List.set_cons_zero, List.set_cons_succ])
  refine wpLA_take (.agg (va)) (yG_val _ (by rfl) (fun w' _ => by (go_simp; try rfl))) ?_
  (try simp only [Act.put, List.getElem_toArray, List.getElem_cons_succ, List.getElem_cons_zero, List.setIfInBounds_toArray, List.set_cons_zero, List.set_cons_succ])
  refine wpLA_take (.bool true) (yG_val _ (by rfl) (fun w' _ => by (go_simp; try rfl))) ?_
  (try simp only [Act.put, List.getElem_toArray, List.getElem_cons_succ, List.getElem_cons_zero, List.setIfInBounds_toArray, List.set_cons_zero, List.set_cons_succ])
  refine wpLA_alloc (by rfl) rfl zeroP ?_
  intro p11 w11 hp hz hb
  have N11 := hid (S10.out.sq.far hp)
  have S11 : Hid (St w w11 [(p11, zP, PT), (p8, sF e1, ST), (p4, vr, PT)] [((some ⟨b0, o0 + 32, none⟩), (c'' - 32), bvs (zs.drop 32)), ((some ⟨b0, o0, none⟩), c'', bvs (zs.take 32))]) := hid (S10.out.alloc hb hp hz)
  clear hp hz hb S10
  (try simp only [Act.put, List.getElem_toArray, List.getElem_cons_succ, List.getElem_cons_zero, List.setIfInBounds_toArray, List.set_cons_zero, List.set_cons_succ])
  refine wpLA_store rfl PT (.tmp 11) (.tmp 32) rfl p11 (va) rfl rfl PT (zP) S11.out.cl.1 HVA.out.info (zP_is.size2 HVA.out) HVA.out.one ?_
  intro wx hb
  have S12 : Hid (St w (wx.setRow p11 (va)) [(p11, va, PT), (p8, sF e1, ST), (p4, vr, PT)] [((some ⟨b0, o0 + 32, none⟩), (c'' - 32), bvs (zs.drop 32)), ((some ⟨b0, o0, none⟩), c'', bvs (zs.take 32))]) := hid ((S11.out.on hb).put 0 rfl N11.out)
  clear hb S11
  generalize wx.setRow p11 (va) = w12 at S12 ⊢
  (try simp only [Act.put, List.getElem_toArray, List.getElem_cons_succ, List.getElem_cons_zero, List.setIfInBounds_toArray, List.set_cons_zero, List.set_cons_succ])
  refine wpLA_take (.bool true) (yG_val _ (by rfl) (fun w' _ => by (go_simp; try rfl))) ?_
  (try simp only [Act.put, List.getElem_toArray, List.getElem_cons_succ, List.getElem_cons_zero, List.setIfInBounds_toArray, List.set_cons_zero, List.set_cons_succ])
  refine wpLA_end ?_
  intro w13 hb
  have S13 := hid (S12.out.on hb)
  clear hb S12
  go_upto_region 6 with fail
  refine wpLA_start ?_
  refine wpLA_take (.bool true) (yG_val _ (by rfl) (fun w' _ => by (go_simp; try rfl))) ?_
  (try simp only [Act.put, List.getElem_toArray, List.getElem_cons_succ, List.getElem_cons_zero, List.setIfInBounds_toArray, List.set_cons_zero, List.set_cons_succ])
  refine wpLA_take (.bool false) (yG_val _ (by rfl) (fun w' _ => by (go_simp; try rfl))) ?_
  (try simp only [Act.put, List.getElem_toArray, List.getElem_cons_succ, List.getElem_cons_zero, List.setIfInBounds_toArray, List.set_cons_zero, List.set_cons_succ])
  refine wpLA_take (.bool false) (yG_val _ (by rfl) (fun w' _ => by (go_simp; try rfl))) ?_
  (try simp only [Act.put, List.getElem_toArray, List.getElem_cons_succ, List.getElem_cons_zero, List.setIfInBounds_toArray, List.set_cons_zero, List.set_cons_succ])
  refine wpLA_take (.bool true) (yG_val _ (by rfl) (fun w' _ => by (go_simp; try rfl))) ?_
  (try simp only [Act.put, List.getElem_toArray, List.getElem_cons_succ, List.getElem_cons_zero, List.setIfInBounds_toArray, List.set_cons_zero, List.set_cons_succ])
  refine wpLA_take (.bool false) (yG_val _ (by rfl) (fun w' _ => by (go_simp; try rfl))) ?_
  (try simp only [Act.put, List.getElem_toArray, List.getElem_cons_succ, List.getElem_cons_zero, List.setIfInBounds_toArray, List.set_cons_zero, List.set_cons_succ])
  refine wpLA_take (.bool false) (yG_val _ (by rfl) (fun w' _ => by (go_simp; try rfl))) ?_
  (try simp only [Act.put, List.getElem_toArray, List.getElem_cons_succ, List.getElem_cons_zero, List.setIfInBounds_toArray, List.set_cons_zero, List.set_cons_succ])
  refine wpLA_take (.bool false) (yG_val _ (by rfl) (fun w' _ => by (go_simp; try rfl))) ?_
  (try simp only [Act.put, List.getElem_toArray, List.getElem_cons_succ, List.getElem_cons_zero, List.setIfInBounds_toArray, List.set_cons_zero, List.set_cons_succ])
  refine wpLA_take (.bool true) (yG_val _ (by rfl) (fun w' _ => by (go_simp; try rfl))) ?_
  (try simp only [Act.put, List.getElem_toArray, List.getElem_cons_succ, List.getElem_cons_zero, List.setIfInBounds_toArray, List.set_cons_zero, List.set_cons_succ])
  refine wpLA_take (.bool false) (yG_val _ (by rfl) (fun w' _ => by (go_simp; try rfl))) ?_
  (try simp only [Act.put, List.getElem_toArray, List.getElem_cons_succ, List.getElem_cons_zero, List.setIfInBounds_toArray, List.set_cons_zero, List.set_cons_succ])
  refine wpLA_take (.bool false) (yG_val _ (by rfl) (fun w' _ => by (go_simp; try rfl))) ?_
  (try simp only [Act.put, List.getElem_toArray, List.getElem_cons_succ, List.getElem_cons_zero, List.setIfInBounds_toArray, List.set_cons_zero, List.set_cons_succ])
  refine wpLA_end ?_
  intro w14 hb
  have S14 := hid (S13.out.on hb)
  clear hb S13
  go_upto_region 8 with fail
  refine wpLA_start ?_
  refine wpLA_take (.slice (some ⟨b0, o0, none⟩) 64 c'') (yG_val _ (by rfl) (fun w' _ => by (go_simp; try rfl))) ?_
  (try simp only [Act.put, List.getElem_toArray, List.getElem_cons_succ, List.getElem_cons_zero, List.setIfInBounds_toArray, List.set_cons_zero, List.set_cons_succ])
  have HC15 : 64 ≤ c'' := by (have := (HS''.out.on6 S14.out.below).cap; rw [bvs_length, LZS.out] at this; exact this.1)
  refine wpLA_take (.slice (some ⟨b0, o0, none⟩) 32 c'') (yG_val _ (by rfl) (fun w' _ => by (have h1 : (64 : Int) ≤ ((c'' : Nat) : Int) := (by omega); have h2 : (32 : Int) ≤ ((c'' : Nat) : Int) := (by omega); clear HC15; go_simp; try omega; try rfl))) ?_
  (try simp only [Act.put, List.getElem_toArray, List.getElem_cons_succ, List.getElem_cons_zero, List.setIfInBounds_toArray, List.set_cons_zero, List.set_cons_succ])
  have S15 : Hid (St w w14 [(p11, va, PT), (p8, sF e1, ST), (p4, vr, PT)] [((some ⟨b0, o0, none⟩), c'', bvs (zs.take 32)), ((some ⟨b0, o0 + 32, none⟩), (c'' - 32), bvs (zs.drop 32)), ((some ⟨b0, o0, none⟩), c'', bvs (zs.take 32))]) := hid (S14.out.more (sq_take (HS''.out.on6 S14.out.below) 32))
  clear HC15 S14
  refine wpLA_take (.slice A (xs.length) c) (yG_val _ (by rfl) (fun w' _ => by (go_simp; try rfl))) ?_
  (try simp only [Act.put, List.getElem_toArray, List.getElem_cons_succ, List.getElem_cons_zero, List.setIfInBounds_toArray, List.set_cons_zero, List.set_cons_succ])
  refine wpLA_rows [((some ⟨b0, o0, none⟩), (zs.take 32), c''), (A, xs, c)] (n := 2) rfl (by (intro p hp; simp only [List.mem_cons, List.not_mem_nil, or_false] at hp; rcases hp with rfl | rfl <;> first | exact (S15.out.sq.1) | exact (HS.out.on6 S15.out.below))) (by rfl) 22 (fun w' => by (simp only [List.map_cons, List.map_nil, List.length_cons, List.length_nil, L32.out]; go_simp; try rfl)) ?_
  intro g16 w16 hb hr
  have S16 : Hid (St w w16 [(p11, va, PT), (p8, sF e1, ST), (p4, vr, PT)] [((some ⟨b0, o0, none⟩), c'', bvs (zs.take 32)), ((some ⟨b0, o0 + 32, none⟩), (c'' - 32), bvs (zs.drop 32)), ((some ⟨b0, o0, none⟩), c'', bvs (zs.take 32))]) := hid (S15.out.on hb)
  have R16 : Hid (Rows2' w16 w16.heap.size (some ⟨g16, 0, none⟩) [(zs.take 32), xs]) := hid hr
  clear hb hr S15
  (try simp only [Act.put, List.getElem_toArray, List.getElem_cons_succ, List.getElem_cons_zero, List.setIfInBounds_toArray, List.set_cons_zero, List.set_cons_succ])
  refine wpLA_take (.slice A' m c') (yG_val _ (by rfl) (fun w' _ => by (go_simp; try rfl))) ?_
  (try simp only [Act.put, List.getElem_toArray, List.getElem_cons_succ, List.getElem_cons_zero, List.setIfInBounds_toArray, List.set_cons_zero, List.set_cons_succ])
  refine wpLA_take (.agg (sF s2)) (yG_call (by rfl) (fun w' => by go_simp) (fun w' hb => KN.out (some ⟨g16, 0, none⟩) 2 A' c' w' (HG.out.below (S16.out.on hb).below (Nat.le_refl _)) (rows_on R16.out hb) (rows_on HR.out (S16.out.on hb).below))) ?_
  (try simp only [Act.put, List.getElem_toArray, List.getElem_cons_succ, List.getElem_cons_zero, List.setIfInBounds_toArray, List.set_cons_zero, List.set_cons_succ])
  refine wpLA_alloc (by rfl) rfl zeroS0 ?_
  intro p17 w17 hp hz hb
  have N17 := hid (S16.out.sq.far hp)
  have S17 : Hid (St w w17 [(p17, sF 0, ST), (p11, va, PT), (p8, sF e1, ST), (p4, vr, PT)] [((some ⟨b0, o0, none⟩), c'', bvs (zs.take 32)), ((some ⟨b0, o0 + 32, none⟩), (c'' - 32), bvs (zs.drop 32)), ((some ⟨b0, o0, none⟩), c'', bvs (zs.take 32))]) := hid (S16.out.alloc hb hp hz)
  clear hp hz hb S16
  (try simp only [Act.put, List.getElem_toArray, List.getElem_cons_succ, List.getElem_cons_zero, List.setIfInBounds_toArray, List.set_cons_zero, List.set_cons_succ])
  refine wpLA_store rfl ST (.tmp 13) (.tmp 49) rfl p17 (sF s2) rfl rfl ST (sF 0) S17.out.cl.1 (infoSF s2) rfl (oneSF s2) ?_
  intro wx hb
  have S18 : Hid (St w (wx.setRow p17 (sF s2)) [(p17, sF s2, ST), (p11, va, PT), (p8, sF e1, ST), (p4, vr, PT)] [((some ⟨b0, o0, none⟩), c'', bvs (zs.take 32)), ((some ⟨b0, o0 + 32, none⟩), (c'' - 32), bvs (zs.drop 32)), ((some ⟨b0, o0, none⟩), c'', bvs (zs.take 32))]) := hid ((S17.out.on hb).put 0 rfl N17.out)
  clear hb S17
  generalize wx.setRow p17 (sF s2) = w18 at S18 ⊢
  (try simp only [Act.put, List.getElem_toArray, List.getElem_cons_succ, List.getElem_cons_zero, List.setIfInBounds_toArray, List.set_cons_zero, List.set_cons_succ])
  refine wpLA_end ?_
  intro w19 hb
  have S19 := hid (S18.out.on hb)
  clear hb S18
  go_upto_region 9 with fail
  refine wp_region_grA 7 (by kernel_rfl) (by decide) ?_
  refine wpGrA_take (i := 0) (.agg (g)) rfl (by kernel_rfl) (by kernel_rfl) (fun _ _ _ h => h) (yG_call (by rfl) (fun w' => by go_simp) (fun w' hb => KG.out w')) ?_
  (try simp only [Act.put, List.getElem_toArray, List.getElem_cons_succ, List.getElem_cons_zero, List.setIfInBounds_toArray, List.set_cons_zero, List.set_cons_succ])
  refine wpGrA_take (i := 1) (.agg (sF e1)) rfl (by kernel_rfl) (by kernel_rfl) (fun _ _ _ h => h) (yG_part (by rfl) ST (.tmp 9) rfl p8 0 rfl ST (sF e1) (sF e1) (0, 0) _ S19.out.cl.2.2.1 (sF_all e1) Tryz.underlying62 rfl (infoSF e1)) ?_
  (try simp only [Act.put, List.getElem_toArray, List.getElem_cons_succ, List.getElem_cons_zero, List.setIfInBounds_toArray, List.set_cons_zero, List.set_cons_succ])
  refine wpGrA_take (i := 2) (.agg (g1)) rfl (by kernel_rfl) (by kernel_rfl) (fun _ _ _ h => h) (yG_call (by rfl) (fun w' => by go_simp) (fun w' hb => KM1.out w')) ?_
  (try simp only [Act.put, List.getElem_toArray, List.getElem_cons_succ, List.getElem_cons_zero, List.setIfInBounds_toArray, List.set_cons_zero, List.set_cons_succ])
  refine wpGrA_take (i := 3) (.agg (vr)) rfl (by kernel_rfl) (by kernel_rfl) (fun _ _ _ h => h) (yG_part (by rfl) PT (.tmp 7) rfl p4 0 rfl PT (vr) (vr) (0, 0) _ S19.out.cl.2.2.2.1 HVR.out.all Tryz.underlying82 rfl HVR.out.info) ?_
  (try simp only [Act.put, List.getElem_toArray, List.getElem_cons_succ, List.getElem_cons_zero, List.setIfInBounds_toArray, List.set_cons_zero, List.set_cons_succ])
  refine wpGrA_take (i := 4) (.agg (va)) rfl (by kernel_rfl) (by kernel_rfl) (fun _ _ _ h => h) (yG_part (by rfl) PT (.tmp 11) rfl p11 0 rfl PT (va) (va) (0, 0) _ S19.out.cl.2.1 HVA.out.all Tryz.underlying82 rfl HVA.out.info) ?_
  (try simp only [Act.put, List.getElem_toArray, List.getElem_cons_succ, List.getElem_cons_zero, List.setIfInBounds_toArray, List.set_cons_zero, List.set_cons_succ])
  refine wpGrA_take (i := 5) (.agg (sF s2)) rfl (by kernel_rfl) (by kernel_rfl) (fun _ _ _ h => h) (yG_part (by rfl) ST (.tmp 13) rfl p17 0 rfl ST (sF s2) (sF s2) (0, 0) _ S19.out.cl.1 (sF_all s2) Tryz.underlying62 rfl (infoSF s2)) ?_
  (try simp only [Act.put, List.getElem_toArray, List.getElem_cons_succ, List.getElem_cons_zero, List.setIfInBounds_toArray, List.set_cons_zero, List.set_cons_succ])
  refine wpGrA_take (i := 6) (.agg (g2)) rfl (by kernel_rfl) (by kernel_rfl) (fun _ _ _ h => h) (yG_call (by rfl) (fun w' => by go_simp) (fun w' hb => KM2.out w')) ?_
  (try simp only [Act.put, List.getElem_toArray, List.getElem_cons_succ, List.getElem_cons_zero, List.setIfInBounds_toArray, List.set_cons_zero, List.set_cons_succ])
  refine wpGrA_end (by kernel_rfl) ?_
  intro w20 hb
  have S20 := hid (S19.out.on hb)
  clear hb S19
  refine wpLA_here ?_
  refine wpLA_take (.agg (g3)) (yG_call (by rfl) (fun w' => by go_simp) (fun w' hb => KAD.out w')) ?_
  (try simp only [Act.put, List.getElem_toArray, List.getElem_cons_succ, List.getElem_cons_zero, List.setIfInBounds_toArray, List.set_cons_zero, List.set_cons_succ])
  refine wpLA_take (.bool hv) (yG_call (by rfl) (fun w' => by go_simp) (fun w' hb => KSM.out w')) ?_
  (try simp only [Act.put, List.getElem_toArray, List.getElem_cons_succ, List.getElem_cons_zero, List.setIfInBounds_toArray, List.set_cons_zero, List.set_cons_succ])
  refine wpLA_take (.bool hv) (yG_val _ (by rfl) (fun w' _ => by (go_simp; try rfl))) ?_
  (try simp only [Act.put, List.getElem_toArray, List.getElem_cons_succ, List.getElem_cons_zero, List.setIfInBounds_toArray, List.set_cons_zero, List.set_cons_succ])
  refine wpLA_end ?_
  intro w21 hb
  have S21 := hid (S20.out.on hb)
  clear hb S20
  go_wp2_with fail
  go_ret
  exact ⟨rfl, S21.out.below⟩
theorem HoldsR_e (A : Option Addr) (xs : List UInt8) (c : Nat) (A'' : Option Addr) (zs : List UInt8) (c'' : Nat) (A' : Option Addr) (ls : List (List UInt8)) (c' m : Nat) (w : World) (hG : GlobL w) (hS : Sq w w.heap.size A c (bvs xs)) (hS'' : Sq w w.heap.size A'' c'' (bvs zs)) (hR : Rows2' w w.heap.size A' ls) (hm : ls.length = m) (hm2 : m ≤ 10) (hl : ls.flatten.length ≤ 10000) (hx : xs.length ≤ 10000) : Calls Tryz.prog 31 #[.slice A xs.length c, .slice A'' zs.length c'', .slice A' m c'] w fun e w' => e = .returned (.bool (holdsB xs ls.flatten zs)) ∧ Below w.heap.size w w' := by
  by_cases h64 : zs.length = 64
  · rw [h64]
    cases hr : ptOf (zs.take 32) with
    | none =>
      rw [show holdsB xs ls.flatten zs = false by unfold holdsB; rw [hr]; simp]
      exact Holds_r A xs c A'' zs c'' A' ls c' m w hG hS hS'' hR hm hm2 hl hx h64 hr
    | some p =>
      cases hx2 : exB (zs.drop 32) with
      | false =>
        rw [show holdsB xs ls.flatten zs = false by unfold holdsB; rw [hx2]; simp]
        exact Holds_x A xs c A'' zs c'' A' ls c' m w hG hS hS'' hR hm hm2 hl hx h64 (by rw [hr]; rfl) hx2
      | true =>
        cases ha : ptOf xs with
        | none =>
          rw [show holdsB xs ls.flatten zs = false by unfold holdsB; rw [ha]; simp]
          exact Holds_a A xs c A'' zs c'' A' ls c' m w hG hS hS'' hR hm hm2 hl hx h64 (by rw [hr]; rfl) hx2 ha
        | some q => exact Holds_ok A xs c A'' zs c'' A' ls c' m w hG hS hS'' hR hm hm2 hl hx h64 (by rw [hr]; rfl) hx2 (by rw [ha]; rfl)
  · rw [holds_len h64]
    exact Holds_no A xs c A'' zs.length c'' A' c' m w h64
end Go.Proofs.YtgehfbcagaaggaaGreatDoor
end
section
namespace Go.Proofs.YtgehfbcagaaggaaGreatDoor
open Go Go.RowKit
set_option linter.unusedVariables false
set_option linter.unusedSimpArgs false
def pubO (seed : List UInt8) : Option (List UInt8) := if seed.length = 32 then some (pubB seed) else none
def sigO (seed text : List UInt8) : Option (List UInt8) := if seed.length = 32 then some (sigB seed text) else none
theorem Signed_any (A : Option Addr) (xs : List UInt8) (c : Nat) (A' : Option Addr) (ls : List (List UInt8)) (m c' : Nat) (w : World) (hG : GlobL w) (hS : Sq w w.heap.size A c (bvs xs)) (hR : Rows2' w w.heap.size A' ls) (hx : xs.length ≤ 10000) (hm : ls.length = m) (hm2 : m ≤ 10) (hl : ls.flatten.length ≤ 10000) :
    Calls Tryz.prog 23 #[.slice A xs.length c, .slice A' m c'] w (SgR w (sigO xs ls.flatten)) := by
  by_cases h : xs.length = 32
  · unfold sigO
    rw [if_pos h, h]
    exact Signed_e A xs c A' ls m c' w hG hS hR h hm hm2 hl
  · unfold sigO
    rw [if_neg h]
    exact Signed_no A xs.length c A' m c' w h (by omega)
section
variable {P : Program} {ops : Array Oper} {Q : Exit → Act → World → Prop} {o : Oper} {rest : List Oper} {a : Act} {w0 : World}
/-- A call that answers bytes and an error. -/
theorem wpLA_sgR {f : FuncId} {args : Array Value} (r : Option (List UInt8)) {RL : List UInt8} {RE : Int} (h1 : RL = r.getD []) (h2 : RE = if r.isSome then 0 else 1) (hw : Region.wanted o (yielded ops a.tmps) = true) (hr : ∀ w', (execOp a.eval o).run P w' = .ok (.enter f args) w')
    (hc : ∀ w', Below w0.heap.size w0 w' → Calls P f args w' (SgR w' r))
    (h : ∀ A c w2, Below w0.heap.size w0 w2 → Sq w2 w2.heap.size A c (bvs RL) → wpLA P ops Q w2 rest (a.put o.dst (.tuple #[.slice A RL.length c, .int .u8 RE]))) : wpLA P ops Q w0 (o :: rest) a :=
  wpLA_call (fun w' v w'' => ∃ A c, v = .tuple #[.slice A RL.length c, .int .u8 RE] ∧ Sq w'' w''.heap.size A c (bvs RL) ∧ Below w'.heap.size w' w'') hw hr (fun w' hb => (hc w' hb).mono fun e w'' ⟨A, c, he, h3, h4⟩ => ⟨_, he, A, c, by rw [h1, h2], by rw [h1]; exact h3, h4⟩)
    fun w' v w'' hb ⟨A, c, hv, h3, h4⟩ => by subst hv; exact h A c w'' (hb.trans (h4.mono hb.size)) h3
end
set_option maxHeartbeats 1000000 in
theorem Secret_e (A : Option Addr) (xs : List UInt8) (c : Nat) (w : World) (hG : GlobL w) (hS : Sq w w.heap.size A c (bvs xs)) (h32 : xs.length = 32) (s1 : SF) (hs1 : s1 = secS xs) : Calls Tryz.prog 30 #[.slice A 32 c] w fun e w' => e = .returned (.agg (sF s1)) ∧ Below w.heap.size w w' := by
  have HS := hid hS; have HG := hid hG
  obtain ⟨PF, hPF⟩ : ∃ l, l = (longB xs).drop 32 := ⟨_, rfl⟩
  have KSE : Hid (∀ (A : Option Addr) (c : Nat) (W : World), GlobL W → Sq W W.heap.size A c (bvs xs) → Calls Tryz.prog 43 #[.slice A 32 c] W fun e w' => ∃ A' c', e = .returned (.tuple #[.agg (sF s1), .slice A' 32 c']) ∧ Sq w' w'.heap.size A' c' (bvs PF) ∧ Below W.heap.size W w') := hid fun A c W hG h => by
    rw [hs1, hPF]; exact Secrets_e A xs c W hG h h32
  clear hS hG h32 hs1 hPF
  go_enter Tryz.func30, Tryz.ntmps30
  have S0 : Hid (St w w [] []) := hid (St.start w)
  go_upto_region 0 with fail
  refine wpLA_start ?_
  refine wpLA_alloc (by rfl) rfl zeroS0 ?_
  intro p1 w1 hp hz hb
  have S1 : Hid (St w w1 [(p1, sF 0, ST)] []) := hid (S0.out.alloc hb hp hz)
  clear hp hz hb S0
  (try simp only [Act.put, List.getElem_toArray, List.getElem_cons_succ, List.getElem_cons_zero, List.setIfInBounds_toArray, List.set_cons_zero, List.set_cons_succ])
  refine wpLA_end ?_
  intro w2 hb
  have S2 := hid (S1.out.on hb)
  clear hb S1
  go_upto_region 1 with fail
  refine wpLA_start ?_
  refine wpLA_take (.slice A 32 c) (yG_val _ (by rfl) (fun w' _ => by (go_simp; try rfl))) ?_
  (try simp only [Act.put, List.getElem_toArray, List.getElem_cons_succ, List.getElem_cons_zero, List.setIfInBounds_toArray, List.set_cons_zero, List.set_cons_succ])
  refine wpLA_take (.int .i64 32) (yG_val _ (by rfl) (fun w' _ => by (go_simp; try rfl))) ?_
  (try simp only [Act.put, List.getElem_toArray, List.getElem_cons_succ, List.getElem_cons_zero, List.setIfInBounds_toArray, List.set_cons_zero, List.set_cons_succ])
  refine wpLA_take (.bool false) (yG_val _ (by rfl) (fun w' _ => by (go_simp; try rfl))) ?_
  (try simp only [Act.put, List.getElem_toArray, List.getElem_cons_succ, List.getElem_cons_zero, List.setIfInBounds_toArray, List.set_cons_zero, List.set_cons_succ])
  refine wpLA_end ?_
  intro w3 hb
  have S3 := hid (S2.out.on hb)
  clear hb S2
  go_upto_region 3 with fail
  refine wpLA_start ?_
  refine wpLA_take (.slice A 32 c) (yG_val _ (by rfl) (fun w' _ => by (go_simp; try rfl))) ?_
  (try simp only [Act.put, List.getElem_toArray, List.getElem_cons_succ, List.getElem_cons_zero, List.setIfInBounds_toArray, List.set_cons_zero, List.set_cons_succ])
  refine wpLA_secr (.agg (sF s1)) PF (by rfl) (fun w' => by go_simp) (fun w' hb => KSE.out _ _ w' (HG.out.below (S3.out.on hb).below (Nat.le_refl _)) (HS.out.on6 ((S3.out.on hb).below))) ?_
  intro A4 c4 w4 hb hs
  have S4 : Hid (St w w4 [(p1, sF 0, ST)] []) := hid (S3.out.on hb)
  clear hb hs S3
  (try simp only [Act.put, List.getElem_toArray, List.getElem_cons_succ, List.getElem_cons_zero, List.setIfInBounds_toArray, List.set_cons_zero, List.set_cons_succ])
  refine wpLA_take (.tuple #[(.agg (sF s1)), (.slice A4 32 c4)]) (yG_val _ (by rfl) (fun w' _ => by (go_simp; try rfl))) ?_
  (try simp only [Act.put, List.getElem_toArray, List.getElem_cons_succ, List.getElem_cons_zero, List.setIfInBounds_toArray, List.set_cons_zero, List.set_cons_succ])
  refine wpLA_take (.agg (sF s1)) (yG_val _ (by rfl) (fun w' _ => by (go_simp; try rfl))) ?_
  (try simp only [Act.put, List.getElem_toArray, List.getElem_cons_succ, List.getElem_cons_zero, List.setIfInBounds_toArray, List.set_cons_zero, List.set_cons_succ])
  refine wpLA_take (.slice A4 32 c4) (yG_val _ (by rfl) (fun w' _ => by (go_simp; try rfl))) ?_
  (try simp only [Act.put, List.getElem_toArray, List.getElem_cons_succ, List.getElem_cons_zero, List.setIfInBounds_toArray, List.set_cons_zero, List.set_cons_succ])
  refine wpLA_alloc (by rfl) rfl zeroS0 ?_
  intro p5 w5 hp hz hb
  have S5 : Hid (St w w5 [(p5, sF 0, ST), (p1, sF 0, ST)] []) := hid (S4.out.alloc hb hp hz)
  clear hp hz hb S4
  (try simp only [Act.put, List.getElem_toArray, List.getElem_cons_succ, List.getElem_cons_zero, List.setIfInBounds_toArray, List.set_cons_zero, List.set_cons_succ])
  refine wpLA_store rfl ST (.tmp 3) (.tmp 12) rfl p5 (sF s1) rfl rfl ST (sF 0) S5.out.cl.1 (infoSF s1) rfl (oneSF s1) ?_
  intro wx hb
  have S6 : Hid (St w (wx.setRow p5 (sF s1)) [(p5, sF s1, ST), (p1, sF 0, ST)] []) := hid ((S5.out.on hb).put0 0 rfl)
  clear hb S5
  generalize wx.setRow p5 (sF s1) = w6 at S6 ⊢
  (try simp only [Act.put, List.getElem_toArray, List.getElem_cons_succ, List.getElem_cons_zero, List.setIfInBounds_toArray, List.set_cons_zero, List.set_cons_succ])
  refine wpLA_take (.slice A4 32 c4) (yG_val _ (by rfl) (fun w' _ => by (go_simp; try rfl))) ?_
  (try simp only [Act.put, List.getElem_toArray, List.getElem_cons_succ, List.getElem_cons_zero, List.setIfInBounds_toArray, List.set_cons_zero, List.set_cons_succ])
  refine wpLA_end ?_
  intro w7 hb
  have S7 := hid (S6.out.on hb)
  clear hb S6
  go_upto_region 4 with fail
  refine wpLA_start ?_
  refine wpLA_take (.agg (sF s1)) (yG_part (by rfl) ST (.tmp 3) rfl p5 0 rfl ST (sF s1) (sF s1) (0, 0) _ S7.out.cl.1 (sF_all s1) Tryz.underlying62 rfl (infoSF s1)) ?_
  (try simp only [Act.put, List.getElem_toArray, List.getElem_cons_succ, List.getElem_cons_zero, List.setIfInBounds_toArray, List.set_cons_zero, List.set_cons_succ])
  refine wpLA_store rfl ST (.tmp 2) (.tmp 14) rfl p1 (sF s1) rfl rfl ST (sF 0) S7.out.cl.2.1 (infoSF s1) rfl (oneSF s1) ?_
  intro wx hb
  have S8 : Hid (St w (wx.setRow p1 (sF s1)) [(p5, sF s1, ST), (p1, sF s1, ST)] []) := hid ((S7.out.on hb).put0 1 rfl)
  clear hb S7
  generalize wx.setRow p1 (sF s1) = w8 at S8 ⊢
  (try simp only [Act.put, List.getElem_toArray, List.getElem_cons_succ, List.getElem_cons_zero, List.setIfInBounds_toArray, List.set_cons_zero, List.set_cons_succ])
  refine wpLA_end ?_
  intro w9 hb
  have S9 := hid (S8.out.on hb)
  clear hb S8
  go_wp2_with fail
  exact bodyPost_ret (v := .agg (sF s1)) (results_cell_row rfl _ _ p1 ST _ (0, 0) _ rfl S9.out.cl.2.1 Tryz.underlying62 rfl (infoSF s1)) rfl ⟨rfl, S9.out.below⟩
set_option maxHeartbeats 1000000 in
theorem Public_no (A : Option Addr) (n c : Nat) (w : World) (hn : n ≠ 32) : Calls Tryz.prog 13 #[.slice A n c] w (SgR w none) := by
  have H32 := hid (show ¬ (n : Int) = 32 by omega)
  clear hn
  go_enter Tryz.func13, Tryz.ntmps13
  have S0 : Hid (St w w [] []) := hid (St.start w)
  go_upto_region 0 with fail
  refine wpLA_start ?_
  refine wpLA_take (.slice none 0 0) (yG_val _ (by rfl) (fun w' _ => by (go_simp; try rfl))) ?_
  (try simp only [Act.put, List.getElem_toArray, List.getElem_cons_succ, List.getElem_cons_zero, List.setIfInBounds_toArray, List.set_cons_zero, List.set_cons_succ])
  refine wpLA_take (.int .u8 0) (yG_val _ (by rfl) (fun w' _ => by (go_simp; try rfl))) ?_
  (try simp only [Act.put, List.getElem_toArray, List.getElem_cons_succ, List.getElem_cons_zero, List.setIfInBounds_toArray, List.set_cons_zero, List.set_cons_succ])
  refine wpLA_end ?_
  intro w1 hb
  have S1 := hid (S0.out.on hb)
  clear hb S0
  go_upto_region 1 with fail
  refine wpLA_start ?_
  refine wpLA_take (.slice A n c) (yG_val _ (by rfl) (fun w' _ => by (go_simp; try rfl))) ?_
  (try simp only [Act.put, List.getElem_toArray, List.getElem_cons_succ, List.getElem_cons_zero, List.setIfInBounds_toArray, List.set_cons_zero, List.set_cons_succ])
  refine wpLA_take (.int .i64 ((n : Nat))) (yG_val _ (by rfl) (fun w' _ => by (go_simp; try rfl))) ?_
  (try simp only [Act.put, List.getElem_toArray, List.getElem_cons_succ, List.getElem_cons_zero, List.setIfInBounds_toArray, List.set_cons_zero, List.set_cons_succ])
  refine wpLA_take (.bool true) (yG_val _ (by rfl) (fun w' _ => by (have h := H32.out; go_simp; try omega))) ?_
  (try simp only [Act.put, List.getElem_toArray, List.getElem_cons_succ, List.getElem_cons_zero, List.setIfInBounds_toArray, List.set_cons_zero, List.set_cons_succ])
  refine wpLA_end ?_
  intro w2 hb
  have S2 := hid (S1.out.on hb)
  clear hb S1
  go_upto_region 2 with fail
  refine wpLA_start ?_
  refine wpLA_take (.slice none 0 0) (yG_val _ (by rfl) (fun w' _ => by (go_simp; try rfl))) ?_
  (try simp only [Act.put, List.getElem_toArray, List.getElem_cons_succ, List.getElem_cons_zero, List.setIfInBounds_toArray, List.set_cons_zero, List.set_cons_succ])
  refine wpLA_take (.int .u8 1) (yG_val _ (by rfl) (fun w' _ => by (go_simp; try rfl))) ?_
  (try simp only [Act.put, List.getElem_toArray, List.getElem_cons_succ, List.getElem_cons_zero, List.setIfInBounds_toArray, List.set_cons_zero, List.set_cons_succ])
  refine wpLA_end ?_
  intro w3 hb
  have S3 := hid (S2.out.on hb)
  clear hb S2
  go_wp2_with fail
  exact bodyPost_ret (v := .tuple #[.slice none 0 0, .int .u8 1]) (by simp [results, Tryz.results13]) rfl ⟨none, 0, rfl, Sq.nil, S3.out.below⟩
set_option maxHeartbeats 1000000 in
theorem Public_e (A : Option Addr) (xs : List UInt8) (c : Nat) (w : World) (hG : GlobL w) (hS : Sq w w.heap.size A c (bvs xs)) (h32 : xs.length = 32) : Calls Tryz.prog 13 #[.slice A 32 c] w (SgR w (some (pubB xs))) := by
  have HS := hid hS; have HG := hid hG
  obtain ⟨s1, hs1⟩ : ∃ s, s = secS xs := ⟨_, rfl⟩
  obtain ⟨PB, hPB⟩ : ∃ l, l = pB (Pt.times s1.val Gb) := ⟨_, rfl⟩
  have hp : pubB xs = PB := by rw [hPB, hs1]; rfl
  have KSE : Hid (∀ (A : Option Addr) (c : Nat) (W : World), GlobL W → Sq W W.heap.size A c (bvs xs) → Calls Tryz.prog 30 #[.slice A 32 c] W fun e w' => e = .returned (.agg (sF s1)) ∧ Below W.heap.size W w') := hid fun A c W hG h => Secret_e A xs c W hG h h32 s1 hs1
  have KF1 : Hid (∀ W : World, Calls Tryz.prog 29 #[.agg (sF s1)] W fun e w' => ∃ v, e = .returned v ∧ OwnB w' W.heap.size v PB ∧ Below W.heap.size W w') := hid fun W => by rw [hPB]; exact Often_e s1 W
  rw [hp]
  clear hS hG h32 hs1 hPB hp
  go_enter Tryz.func13, Tryz.ntmps13
  have S0 : Hid (St w w [] []) := hid (St.start w)
  go_upto_region 0 with fail
  refine wpLA_start ?_
  refine wpLA_take (.slice none 0 0) (yG_val _ (by rfl) (fun w' _ => by (go_simp; try rfl))) ?_
  (try simp only [Act.put, List.getElem_toArray, List.getElem_cons_succ, List.getElem_cons_zero, List.setIfInBounds_toArray, List.set_cons_zero, List.set_cons_succ])
  refine wpLA_take (.int .u8 0) (yG_val _ (by rfl) (fun w' _ => by (go_simp; try rfl))) ?_
  (try simp only [Act.put, List.getElem_toArray, List.getElem_cons_succ, List.getElem_cons_zero, List.setIfInBounds_toArray, List.set_cons_zero, List.set_cons_succ])
  refine wpLA_end ?_
  intro w1 hb
  have S1 := hid (S0.out.on hb)
  clear hb S0
  go_upto_region 1 with fail
  refine wpLA_start ?_
  refine wpLA_take (.slice A 32 c) (yG_val _ (by rfl) (fun w' _ => by (go_simp; try rfl))) ?_
  (try simp only [Act.put, List.getElem_toArray, List.getElem_cons_succ, List.getElem_cons_zero, List.setIfInBounds_toArray, List.set_cons_zero, List.set_cons_succ])
  refine wpLA_take (.int .i64 32) (yG_val _ (by rfl) (fun w' _ => by (go_simp; try rfl))) ?_
  (try simp only [Act.put, List.getElem_toArray, List.getElem_cons_succ, List.getElem_cons_zero, List.setIfInBounds_toArray, List.set_cons_zero, List.set_cons_succ])
  refine wpLA_take (.bool false) (yG_val _ (by rfl) (fun w' _ => by (go_simp; try rfl))) ?_
  (try simp only [Act.put, List.getElem_toArray, List.getElem_cons_succ, List.getElem_cons_zero, List.setIfInBounds_toArray, List.set_cons_zero, List.set_cons_succ])
  refine wpLA_end ?_
  intro w2 hb
  have S2 := hid (S1.out.on hb)
  clear hb S1
  go_upto_region 3 with fail
  refine wpLA_start ?_
  refine wpLA_take (.slice A 32 c) (yG_val _ (by rfl) (fun w' _ => by (go_simp; try rfl))) ?_
  (try simp only [Act.put, List.getElem_toArray, List.getElem_cons_succ, List.getElem_cons_zero, List.setIfInBounds_toArray, List.set_cons_zero, List.set_cons_succ])
  refine wpLA_take (.agg (sF s1)) (yG_call (by rfl) (fun w' => by go_simp) (fun w' hb => KSE.out _ _ w' (HG.out.below (S2.out.on hb).below (Nat.le_refl _)) (HS.out.on6 ((S2.out.on hb).below)))) ?_
  (try simp only [Act.put, List.getElem_toArray, List.getElem_cons_succ, List.getElem_cons_zero, List.setIfInBounds_toArray, List.set_cons_zero, List.set_cons_succ])
  refine wpLA_bytes (PB) (by rfl) (fun w' => by go_simp) (fun w' hb => KF1.out w') ?_
  intro A3 c3 w3 hb hs
  have S3 : Hid (St w w3 [] [(A3, c3, bvs (PB))]) := hid ((S2.out.on hb).more hs)
  clear hb hs S2
  (try simp only [Act.put, List.getElem_toArray, List.getElem_cons_succ, List.getElem_cons_zero, List.setIfInBounds_toArray, List.set_cons_zero, List.set_cons_succ])
  refine wpLA_take (.slice A3 ((PB).length) c3) (yG_val _ (by rfl) (fun w' _ => by (go_simp; try rfl))) ?_
  (try simp only [Act.put, List.getElem_toArray, List.getElem_cons_succ, List.getElem_cons_zero, List.setIfInBounds_toArray, List.set_cons_zero, List.set_cons_succ])
  refine wpLA_take (.int .u8 0) (yG_val _ (by rfl) (fun w' _ => by (go_simp; try rfl))) ?_
  (try simp only [Act.put, List.getElem_toArray, List.getElem_cons_succ, List.getElem_cons_zero, List.setIfInBounds_toArray, List.set_cons_zero, List.set_cons_succ])
  refine wpLA_end ?_
  intro w4 hb
  have S4 := hid (S3.out.on hb)
  clear hb S3
  go_wp2_with fail
  exact bodyPost_ret (v := .tuple #[(.slice A3 ((PB).length) c3), .int .u8 0]) (by simp [results, Tryz.results13]) rfl ⟨_, _, rfl, S4.out.sq.1, S4.out.below⟩
theorem SgPublic (A : Option Addr) (xs : List UInt8) (c : Nat) (w : World) (hG : GlobL w) (hS : Sq w w.heap.size A c (bvs xs)) (hl : xs.length ≤ 1000) :
    Calls Tryz.prog 13 #[.slice A xs.length c] w (SgR w (pubO xs)) := by
  unfold pubO
  by_cases h : xs.length = 32
  · rw [if_pos h, h]; exact Public_e A xs c w hG hS h
  · rw [if_neg h]; exact Public_no A xs.length c w h
set_option maxHeartbeats 1000000 in
theorem SgLabel (A : Option Addr) (xs : List UInt8) (c : Nat) (s : ByteArray) (A' : Option Addr) (ys : List UInt8) (c' : Nat) (w : World) (hG : GlobL w) (hS : Sq w w.heap.size A c (bvs xs)) (hS' : Sq w w.heap.size A' c' (bvs ys)) (hl : xs.length ≤ 500) (hs : s.size ≤ 100) (hl' : ys.length ≤ 500) :
    Calls Tryz.prog 11 #[.slice A xs.length c, .string s, .slice A' ys.length c'] w (SgR w (sigO xs (textB (sby s) ys))) := by
  have HS := hid hS; have HS' := hid hS'; have HG := hid hG
  obtain ⟨LS, hLS⟩ : ∃ l, l = [vecBytes (mlsB ++ sby s), vecBytes ys] := ⟨_, rfl⟩
  have KLB : Hid (∀ (A : Option Addr) (c : Nat) (W : World), Sq W W.heap.size A c (bvs ys) → Calls Tryz.prog 24 #[.string s, .slice A ys.length c] W fun e w' => ∃ A c, e = .returned (.slice A 2 c) ∧ Rows2' w' w'.heap.size A LS ∧ Below W.heap.size W w') := hid fun A c W h => by
    rw [hLS]; exact Labelled_e s A ys c _ W (by omega) h rfl (by omega)
  have hfl : LS.flatten = textB (sby s) ys := by rw [hLS]; simp [textB]
  have hln : LS.length = 2 := by rw [hLS]; rfl
  have hll : LS.flatten.length ≤ 10000 := by
    rw [hfl]
    unfold textB
    have h1 := vecBytes_le (mlsB ++ sby s)
    have h2 := vecBytes_le ys
    have h3 := sby_length s
    have h4 : mlsB.length = 8 := rfl
    rw [List.length_append] at h1 ⊢
    omega
  have KSG : Hid (∀ (A : Option Addr) (c : Nat) (A' : Option Addr) (c' : Nat) (W : World), GlobL W → Sq W W.heap.size A c (bvs xs) → Rows2' W W.heap.size A' LS → Calls Tryz.prog 23 #[.slice A xs.length c, .slice A' 2 c'] W (SgR W (sigO xs (textB (sby s) ys)))) := hid fun A c A' c' W hG h h' => by
    have := Signed_any A xs c A' LS 2 c' W hG h h' (by omega) hln (by decide) hll
    rw [hfl] at this; exact this
  obtain ⟨RL, hRL⟩ : ∃ l, l = (sigO xs (textB (sby s) ys)).getD [] := ⟨_, rfl⟩
  obtain ⟨RE, hRE⟩ : ∃ n : Int, n = if (sigO xs (textB (sby s) ys)).isSome then 0 else 1 := ⟨_, rfl⟩
  have HRL := hid hRL; have HRE := hid hRE
  clear hS hS' hG hl hl' hs hRL hRE hLS hfl hln hll
  go_enter Tryz.func11, Tryz.ntmps11
  have S0 : Hid (St w w [] []) := hid (St.start w)
  go_upto_region 0 with fail
  refine wpLA_start ?_
  refine wpLA_take (.slice none 0 0) (yG_val _ (by rfl) (fun w' _ => by (go_simp; try rfl))) ?_
  (try simp only [Act.put, List.getElem_toArray, List.getElem_cons_succ, List.getElem_cons_zero, List.setIfInBounds_toArray, List.set_cons_zero, List.set_cons_succ])
  refine wpLA_take (.int .u8 0) (yG_val _ (by rfl) (fun w' _ => by (go_simp; try rfl))) ?_
  (try simp only [Act.put, List.getElem_toArray, List.getElem_cons_succ, List.getElem_cons_zero, List.setIfInBounds_toArray, List.set_cons_zero, List.set_cons_succ])
  refine wpLA_end ?_
  intro w1 hb
  have S1 := hid (S0.out.on hb)
  clear hb S0
  go_upto_region 1 with fail
  refine wpLA_start ?_
  refine wpLA_take (.slice A (xs.length) c) (yG_val _ (by rfl) (fun w' _ => by (go_simp; try rfl))) ?_
  (try simp only [Act.put, List.getElem_toArray, List.getElem_cons_succ, List.getElem_cons_zero, List.setIfInBounds_toArray, List.set_cons_zero, List.set_cons_succ])
  refine wpLA_take (.string s) (yG_val _ (by rfl) (fun w' _ => by (go_simp; try rfl))) ?_
  (try simp only [Act.put, List.getElem_toArray, List.getElem_cons_succ, List.getElem_cons_zero, List.setIfInBounds_toArray, List.set_cons_zero, List.set_cons_succ])
  refine wpLA_take (.slice A' (ys.length) c') (yG_val _ (by rfl) (fun w' _ => by (go_simp; try rfl))) ?_
  (try simp only [Act.put, List.getElem_toArray, List.getElem_cons_succ, List.getElem_cons_zero, List.setIfInBounds_toArray, List.set_cons_zero, List.set_cons_succ])
  refine wpLA_rowsC LS (n := 2) (by rfl) (fun w' => by go_simp) (fun w' hb => KLB.out _ _ w' (HS'.out.on6 ((S1.out.on hb).below))) ?_
  intro A2 c2 w2 hb hr
  have S2 : Hid (St w w2 [] []) := hid (S1.out.on hb)
  have R2 := hid hr
  clear hb hr S1
  (try simp only [Act.put, List.getElem_toArray, List.getElem_cons_succ, List.getElem_cons_zero, List.setIfInBounds_toArray, List.set_cons_zero, List.set_cons_succ])
  refine wpLA_sgR _ HRL.out HRE.out (by rfl) (fun w' => by go_simp) (fun w' hb => KSG.out A c A2 c2 w' (HG.out.below (S2.out.on hb).below (Nat.le_refl _)) (HS.out.on6 ((S2.out.on hb).below)) (rows_on R2.out hb)) ?_
  intro A3 c3 w3 hb hs
  have S3 : Hid (St w w3 [] [(A3, c3, bvs RL)]) := hid ((S2.out.on hb).more hs)
  clear hb hs S2
  (try simp only [Act.put, List.getElem_toArray, List.getElem_cons_succ, List.getElem_cons_zero, List.setIfInBounds_toArray, List.set_cons_zero, List.set_cons_succ])
  refine wpLA_take (.slice A3 (RL.length) c3) (yG_val _ (by rfl) (fun w' _ => by (go_simp; try rfl))) ?_
  (try simp only [Act.put, List.getElem_toArray, List.getElem_cons_succ, List.getElem_cons_zero, List.setIfInBounds_toArray, List.set_cons_zero, List.set_cons_succ])
  refine wpLA_take (.int .u8 (RE)) (yG_val _ (by rfl) (fun w' _ => by (go_simp; try rfl))) ?_
  (try simp only [Act.put, List.getElem_toArray, List.getElem_cons_succ, List.getElem_cons_zero, List.setIfInBounds_toArray, List.set_cons_zero, List.set_cons_succ])
  refine wpLA_take (.slice A3 (RL.length) c3) (yG_val _ (by rfl) (fun w' _ => by (go_simp; try rfl))) ?_
  (try simp only [Act.put, List.getElem_toArray, List.getElem_cons_succ, List.getElem_cons_zero, List.setIfInBounds_toArray, List.set_cons_zero, List.set_cons_succ])
  refine wpLA_take (.int .u8 (RE)) (yG_val _ (by rfl) (fun w' _ => by (go_simp; try rfl))) ?_
  (try simp only [Act.put, List.getElem_toArray, List.getElem_cons_succ, List.getElem_cons_zero, List.setIfInBounds_toArray, List.set_cons_zero, List.set_cons_succ])
  refine wpLA_end ?_
  intro w4 hb
  have S4 := hid (S3.out.on hb)
  clear hb S3
  go_wp2_with fail
  exact bodyPost_ret (v := .tuple #[(.slice A3 (RL.length) c3), (.int .u8 (RE))]) (by simp [results, Tryz.results11]) rfl ⟨_, _, by rw [HRL.out, HRE.out], by rw [← HRL.out]; exact S4.out.sq.1, S4.out.below⟩
set_option maxHeartbeats 1000000 in
theorem SgCheck (A : Option Addr) (xs : List UInt8) (c : Nat) (s : ByteArray) (A' : Option Addr) (ys : List UInt8) (c' : Nat) (A'' : Option Addr) (zs : List UInt8) (c'' : Nat) (w : World) (hG : GlobL w) (hS : Sq w w.heap.size A c (bvs xs)) (hS' : Sq w w.heap.size A' c' (bvs ys)) (hS'' : Sq w w.heap.size A'' c'' (bvs zs)) (hl : xs.length ≤ 500) (hs : s.size ≤ 100) (hl' : ys.length ≤ 500) (hl'' : zs.length ≤ 500) :
    Calls Tryz.prog 16 #[.slice A xs.length c, .string s, .slice A' ys.length c', .slice A'' zs.length c''] w fun e w' => e = .returned (.bool (holdsB xs (textB (sby s) ys) zs)) ∧ Below w.heap.size w w' := by
  have HS := hid hS; have HS' := hid hS'; have HS'' := hid hS''; have HG := hid hG
  obtain ⟨LS, hLS⟩ : ∃ l, l = [vecBytes (mlsB ++ sby s), vecBytes ys] := ⟨_, rfl⟩
  have KLB : Hid (∀ (A : Option Addr) (c : Nat) (W : World), Sq W W.heap.size A c (bvs ys) → Calls Tryz.prog 24 #[.string s, .slice A ys.length c] W fun e w' => ∃ A c, e = .returned (.slice A 2 c) ∧ Rows2' w' w'.heap.size A LS ∧ Below W.heap.size W w') := hid fun A c W h => by
    rw [hLS]; exact Labelled_e s A ys c _ W (by omega) h rfl (by omega)
  have hfl : LS.flatten = textB (sby s) ys := by rw [hLS]; simp [textB]
  have hln : LS.length = 2 := by rw [hLS]; rfl
  have hll : LS.flatten.length ≤ 10000 := by
    rw [hfl]
    unfold textB
    have h1 := vecBytes_le (mlsB ++ sby s)
    have h2 := vecBytes_le ys
    have h3 := sby_length s
    have h4 : mlsB.length = 8 := rfl
    rw [List.length_append] at h1 ⊢
    omega
  obtain ⟨hv, hhv⟩ : ∃ b, b = holdsB xs (textB (sby s) ys) zs := ⟨_, rfl⟩
  have KHO : Hid (∀ (A : Option Addr) (c : Nat) (A2 : Option Addr) (c2 : Nat) (A3 : Option Addr) (c3 : Nat) (W : World), GlobL W → Sq W W.heap.size A c (bvs xs) → Sq W W.heap.size A2 c2 (bvs zs) → Rows2' W W.heap.size A3 LS → Calls Tryz.prog 31 #[.slice A xs.length c, .slice A2 zs.length c2, .slice A3 2 c3] W fun e w' => e = .returned (.bool hv) ∧ Below W.heap.size W w') := hid fun A c A2 c2 A3 c3 W hG h h2 h3 => by
    have := HoldsR_e A xs c A2 zs c2 A3 LS c3 2 W hG h h2 h3 hln (by decide) hll (by omega)
    rw [hfl, ← hhv] at this; exact this
  rw [← hhv]
  clear hS hS' hS'' hG hl hl' hl'' hs hhv hLS hfl hln hll
  go_enter Tryz.func16, Tryz.ntmps16
  have S0 : Hid (St w w [] []) := hid (St.start w)
  go_upto_region 0 with fail
  refine wpLA_start ?_
  refine wpLA_take (.bool false) (yG_val _ (by rfl) (fun w' _ => by (go_simp; try rfl))) ?_
  (try simp only [Act.put, List.getElem_toArray, List.getElem_cons_succ, List.getElem_cons_zero, List.setIfInBounds_toArray, List.set_cons_zero, List.set_cons_succ])
  refine wpLA_end ?_
  intro w1 hb
  have S1 := hid (S0.out.on hb)
  clear hb S0
  go_upto_region 1 with fail
  refine wpLA_start ?_
  refine wpLA_take (.slice A (xs.length) c) (yG_val _ (by rfl) (fun w' _ => by (go_simp; try rfl))) ?_
  (try simp only [Act.put, List.getElem_toArray, List.getElem_cons_succ, List.getElem_cons_zero, List.setIfInBounds_toArray, List.set_cons_zero, List.set_cons_succ])
  refine wpLA_take (.slice A'' (zs.length) c'') (yG_val _ (by rfl) (fun w' _ => by (go_simp; try rfl))) ?_
  (try simp only [Act.put, List.getElem_toArray, List.getElem_cons_succ, List.getElem_cons_zero, List.setIfInBounds_toArray, List.set_cons_zero, List.set_cons_succ])
  refine wpLA_take (.string s) (yG_val _ (by rfl) (fun w' _ => by (go_simp; try rfl))) ?_
  (try simp only [Act.put, List.getElem_toArray, List.getElem_cons_succ, List.getElem_cons_zero, List.setIfInBounds_toArray, List.set_cons_zero, List.set_cons_succ])
  refine wpLA_take (.slice A' (ys.length) c') (yG_val _ (by rfl) (fun w' _ => by (go_simp; try rfl))) ?_
  (try simp only [Act.put, List.getElem_toArray, List.getElem_cons_succ, List.getElem_cons_zero, List.setIfInBounds_toArray, List.set_cons_zero, List.set_cons_succ])
  refine wpLA_rowsC LS (n := 2) (by rfl) (fun w' => by go_simp) (fun w' hb => KLB.out _ _ w' (HS'.out.on6 ((S1.out.on hb).below))) ?_
  intro A2 c2 w2 hb hr
  have S2 : Hid (St w w2 [] []) := hid (S1.out.on hb)
  have R2 := hid hr
  clear hb hr S1
  (try simp only [Act.put, List.getElem_toArray, List.getElem_cons_succ, List.getElem_cons_zero, List.setIfInBounds_toArray, List.set_cons_zero, List.set_cons_succ])
  refine wpLA_take (.bool hv) (yG_call (by rfl) (fun w' => by go_simp) (fun w' hb => KHO.out A c A'' c'' A2 c2 w' (HG.out.below (S2.out.on hb).below (Nat.le_refl _)) (HS.out.on6 ((S2.out.on hb).below)) (HS''.out.on6 ((S2.out.on hb).below)) (rows_on R2.out hb))) ?_
  (try simp only [Act.put, List.getElem_toArray, List.getElem_cons_succ, List.getElem_cons_zero, List.setIfInBounds_toArray, List.set_cons_zero, List.set_cons_succ])
  refine wpLA_take (.bool hv) (yG_val _ (by rfl) (fun w' _ => by (go_simp; try rfl))) ?_
  (try simp only [Act.put, List.getElem_toArray, List.getElem_cons_succ, List.getElem_cons_zero, List.setIfInBounds_toArray, List.set_cons_zero, List.set_cons_succ])
  refine wpLA_end ?_
  intro w3 hb
  have S3 := hid (S2.out.on hb)
  clear hb S2
  go_wp2_with fail
  go_ret
  exact ⟨rfl, S3.out.below⟩
end Go.Proofs.YtgehfbcagaaggaaGreatDoor
end
