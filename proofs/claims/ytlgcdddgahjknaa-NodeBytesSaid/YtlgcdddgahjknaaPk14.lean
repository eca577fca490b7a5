/-
  Texts of this claim in one file: Ref16f, Ref16g.
-/
import Derived.Test.YtlgcdddgahjknaaPk7
section
namespace Go.Proofs.Ytlgcdddgahjknaa
open Go Go.RowKit
set_option linter.unusedVariables false
set_option linter.unusedSimpArgs false
theorem built1 (r : Nat) : Try.prog.builtSlice 5 1 [(0, .int .u8 (r : Int))] = some #[.int .u8 (r : Int)] := by kernel_rfl
set_option maxRecDepth 100000 in
set_option maxHeartbeats 8000000 in
theorem Ahead16_any (x : Lf) (a : LA) (w : World) (hx : LfIn w x a) (hl : Lf200 x) : Calls Try.prog 35 #[.agg (lfV x a)] w (RetQ w (aheadB x)) := by
  have K1 := hid (heap_alloc_new w (.cells (lfV x a) LfT))
  obtain ⟨W, hW⟩ : ∃ W, W = w.alloc (.cells (lfV x a) LfT) := ⟨_, rfl⟩
  have HW0 : Hid (Below w.heap.size w W) := hid (by rw [hW]; exact (Below.refl _ _).alloc (Nat.le_refl _) _)
  have HX := hid (hx.on HW0.out)
  rw [← hW] at K1
  have HV1 : Hid (∀ V, Below W.heap.size W V → Calls Try.prog 36 #[.slice a.a0 x.box.length a.c0] V (RetQ V (vecBytes x.box))) := hid fun V h => VecQ _ _ _ V (by have := hl.1; omega) (lie_to HX.out.1 h)
  have HV2 : Hid (∀ V, Below W.heap.size W V → Calls Try.prog 36 #[.slice a.a1 x.sign.length a.c1] V (RetQ V (vecBytes x.sign))) := hid fun V h => VecQ _ _ _ V (by have := hl.2.1; omega) (lie_to HX.out.2.1 h)
  have HV3 : Hid (∀ V, Below W.heap.size W V → Calls Try.prog 36 #[.slice a.a2 x.ident.length a.c2] V (RetQ V (vecBytes x.ident))) := hid fun V h => VecQ _ _ _ V (by have := hl.2.2.1; omega) (lie_to HX.out.2.2.1 h)
  have HV4 : Hid (∀ V, Below W.heap.size W V → Calls Try.prog 36 #[.slice a.a3 x.par.length a.c3] V (RetQ V (vecBytes x.par))) := hid fun V h => VecQ _ _ _ V (by have := hl.2.2.2.1; omega) (lie_to HX.out.2.2.2.1 h)
  have v1 := vec_le (xs := x.box) (by have := hl.1; omega); have v2 := vec_le (xs := x.sign) (by have := hl.2.1; omega); have v3 := vec_le (xs := x.ident) (by have := hl.2.2.1; omega); have v4 := vec_le (xs := x.par) (by have := hl.2.2.2.1; omega)
  have hsb := src_byte hl.2.2.2.2.2
  have HBU := hid (built1 x.src)
  have HA : Hid (aheadB x = (vecBytes x.box ++ vecBytes x.sign) ++ (vecBytes x.ident ++ [UInt8.ofNat x.src]) ++ (if x.src = 3 then vecBytes x.par else [])) := hid rfl
  obtain ⟨RR, hR⟩ : ∃ t, t = aheadB x := ⟨_, rfl⟩
  obtain ⟨b1, hb1⟩ : ∃ t, t = vecBytes x.box := ⟨_, rfl⟩
  obtain ⟨b2, hb2⟩ : ∃ t, t = vecBytes x.sign := ⟨_, rfl⟩
  obtain ⟨b3, hb3⟩ : ∃ t, t = vecBytes x.ident := ⟨_, rfl⟩
  obtain ⟨b4, hb4⟩ : ∃ t, t = vecBytes x.par := ⟨_, rfl⟩
  obtain ⟨sb, hs⟩ : ∃ t, t = UInt8.ofNat x.src := ⟨_, rfl⟩
  rw [← hR, ← hb1, ← hb2, ← hb3, ← hb4, ← hs] at HA
  rw [← hb1] at HV1 v1
  rw [← hb2] at HV2 v2
  rw [← hb3] at HV3 v3
  rw [← hb4] at HV4 v4
  rw [← hs] at hsb
  rw [← hR]
  have HN : Hid (b1.length ≤ 100004 ∧ b2.length ≤ 100004 ∧ b3.length ≤ 100004 ∧ b4.length ≤ 100004) := hid ⟨v1, v2, v3, v4⟩
  have HSB := hid hsb
  have HC : Hid (∀ w', Below W.heap.size W w' → (w'.cell? ⟨w.heap.size, 0, none⟩ = some (.slice a.a0 x.box.length a.c0) ∧ w'.cell? ⟨w.heap.size, 1, none⟩ = some (.slice a.a1 x.sign.length a.c1) ∧ w'.cell? ⟨w.heap.size, 2, none⟩ = some (.slice a.a2 x.ident.length a.c2) ∧ w'.cell? ⟨w.heap.size, 3, none⟩ = some (.int .u8 (x.src : Int)))) := hid fun w' h => by
    have K2 := (h.block _ (block_lt K1.out)).trans K1.out
    exact ⟨cell_of K2 0 _ rfl, cell_of K2 1 _ rfl, cell_of K2 2 _ rfl, cell_of K2 3 _ rfl⟩
  clear hx hl hR hb1 hb2 hb3 hb4 hs v1 v2 v3 v4 hsb HX
  go_enter Try.func35, Try.ntmps35
  go_upto_region 1 with fail
  have e : w.alloc (.cells #[.slice a.a0 x.box.length a.c0, .slice a.a1 x.sign.length a.c1, .slice a.a2 x.ident.length a.c2, .int .u8 (x.src : Int), .slice a.a3 x.par.length a.c3, .slice a.a4 x.sig.length a.c4] LfT) = W := hW.symm
  rw [e]
  clear e hW
  have HB : Hid (Below W.heap.size W W) := hid (Below.refl _ _)
  refine wp_region_grA 13 (by kernel_rfl) (by decide) ?_
  refine wpGrA_take (i := 0) (.pointer (some ⟨w.heap.size, 0, none⟩)) rfl (by kernel_rfl) (by kernel_rfl) (fun _ _ _ h => h) (yG_val _ (by rfl) (fun w' _ => by (go_simp; try rfl))) ?_
  (try simp only [Act.put, List.getElem_toArray, List.getElem_cons_succ, List.getElem_cons_zero, List.setIfInBounds_toArray, List.set_cons_zero, List.set_cons_succ])
  refine wpGrA_take (i := 1) (.slice a.a0 x.box.length a.c0) rfl (by kernel_rfl) (by kernel_rfl) (fun _ _ _ h => h) (yG_val _ (by rfl) (fun w' hb => by have c := (HC.out w' hb).1; (go_simp; try rfl))) ?_
  (try simp only [Act.put, List.getElem_toArray, List.getElem_cons_succ, List.getElem_cons_zero, List.setIfInBounds_toArray, List.set_cons_zero, List.set_cons_succ])
  refine wpGrA_take (i := 3) (.pointer (some ⟨w.heap.size, 1, none⟩)) rfl (by kernel_rfl) (by kernel_rfl) (fun _ _ _ h => h) (yG_val _ (by rfl) (fun w' _ => by (go_simp; try rfl))) ?_
  (try simp only [Act.put, List.getElem_toArray, List.getElem_cons_succ, List.getElem_cons_zero, List.setIfInBounds_toArray, List.set_cons_zero, List.set_cons_succ])
  refine wpGrA_take (i := 4) (.slice a.a1 x.sign.length a.c1) rfl (by kernel_rfl) (by kernel_rfl) (fun _ _ _ h => h) (yG_val _ (by rfl) (fun w' hb => by have c := (HC.out w' hb).2.1; (go_simp; try rfl))) ?_
  (try simp only [Act.put, List.getElem_toArray, List.getElem_cons_succ, List.getElem_cons_zero, List.setIfInBounds_toArray, List.set_cons_zero, List.set_cons_succ])
  refine wpGrA_take (i := 7) (.pointer (some ⟨w.heap.size, 2, none⟩)) rfl (by kernel_rfl) (by kernel_rfl) (fun _ _ _ h => h) (yG_val _ (by rfl) (fun w' _ => by (go_simp; try rfl))) ?_
  (try simp only [Act.put, List.getElem_toArray, List.getElem_cons_succ, List.getElem_cons_zero, List.setIfInBounds_toArray, List.set_cons_zero, List.set_cons_succ])
  refine wpGrA_take (i := 8) (.slice a.a2 x.ident.length a.c2) rfl (by kernel_rfl) (by kernel_rfl) (fun _ _ _ h => h) (yG_val _ (by rfl) (fun w' hb => by have c := (HC.out w' hb).2.2.1; (go_simp; try rfl))) ?_
  (try simp only [Act.put, List.getElem_toArray, List.getElem_cons_succ, List.getElem_cons_zero, List.setIfInBounds_toArray, List.set_cons_zero, List.set_cons_succ])
  refine wpGrA_take (i := 10) (.pointer (some ⟨w.heap.size, 3, none⟩)) rfl (by kernel_rfl) (by kernel_rfl) (fun _ _ _ h => h) (yG_val _ (by rfl) (fun w' _ => by (go_simp; try rfl))) ?_
  (try simp only [Act.put, List.getElem_toArray, List.getElem_cons_succ, List.getElem_cons_zero, List.setIfInBounds_toArray, List.set_cons_zero, List.set_cons_succ])
  refine wpGrA_take (i := 11) (.int .u8 (x.src : Int)) rfl (by kernel_rfl) (by kernel_rfl) (fun _ _ _ h => h) (yG_val _ (by rfl) (fun w' hb => by have c := (HC.out w' hb).2.2.2; (go_simp; try rfl))) ?_
  (try simp only [Act.put, List.getElem_toArray, List.getElem_cons_succ, List.getElem_cons_zero, List.setIfInBounds_toArray, List.set_cons_zero, List.set_cons_succ])
  refine wpGrA_bytes_slice (i := 2) (j := 12) (b1) rfl rfl (by kernel_rfl) (by rfl) (fun w' => by go_simp) (fun w' hb => (HV1.out w' (HB.out.trans (hb.mono HB.out.size)))) (by rfl) _ _ 1 _ rfl Try.underlying22 [(0, .int .u8 (x.src : Int))] rfl ([.int .u8 (x.src : Int)]) HBU.out (by simp) (by decide) ?_ ?_
  · intro B1 d1 v1 hb hq
    have HBn := hid (HB.out.trans (hb.mono HB.out.size))
    clear HB 
    have HB := HBn
    clear HBn 
    have Q1 := hid hq
    clear hb hq
    (try simp only [Act.put, List.getElem_toArray, List.getElem_cons_succ, List.getElem_cons_zero, List.setIfInBounds_toArray, List.set_cons_zero, List.set_cons_succ])
    refine wpGrA_bytes_slice (i := 5) (j := 12) (b2) rfl rfl (by kernel_rfl) (by rfl) (fun w' => by go_simp) (fun w' hb => (HV2.out w' (HB.out.trans (hb.mono HB.out.size)))) (by rfl) _ _ 1 _ rfl Try.underlying22 [(0, .int .u8 (x.src : Int))] rfl ([.int .u8 (x.src : Int)]) HBU.out (by simp) (by decide) ?_ ?_
    · intro B2 d2 v2 hb hq
      have Q1n := hid ((Q1.out.below hb).more hb.size)
      have HBn := hid (HB.out.trans (hb.mono HB.out.size))
      clear HB Q1
      have HB := HBn
      have Q1 := Q1n
      clear HBn Q1n
      have Q2 := hid hq
      clear hb hq
      (try simp only [Act.put, List.getElem_toArray, List.getElem_cons_succ, List.getElem_cons_zero, List.setIfInBounds_toArray, List.set_cons_zero, List.set_cons_succ])
      refine wpGrA_bytes_slice (i := 6) (j := 12) (b1 ++ b2) rfl rfl (by kernel_rfl) (by rfl) (fun w' => by go_simp) (fun w' hb => (join16 B1 (b1) d1 B2 (b2) d2 w' ((Q1.out.below hb).more hb.size).lie ((Q2.out.below hb).more hb.size).lie (by have := HN.out; (try simp only [List.length_append, List.length_cons, List.length_nil]); omega) (by have := HN.out; (try simp only [List.length_append, List.length_cons, List.length_nil]); omega))) (by rfl) _ _ 1 _ rfl Try.underlying22 [(0, .int .u8 (x.src : Int))] rfl ([.int .u8 (x.src : Int)]) HBU.out (by simp) (by decide) ?_ ?_
      · intro B3 d3 v3 hb hq
        have Q1n := hid ((Q1.out.below hb).more hb.size)
        have Q2n := hid ((Q2.out.below hb).more hb.size)
        have HBn := hid (HB.out.trans (hb.mono HB.out.size))
        clear HB Q1 Q2
        have HB := HBn
        have Q1 := Q1n
        have Q2 := Q2n
        clear HBn Q1n Q2n
        have Q3 := hid hq
        clear hb hq
        (try simp only [Act.put, List.getElem_toArray, List.getElem_cons_succ, List.getElem_cons_zero, List.setIfInBounds_toArray, List.set_cons_zero, List.set_cons_succ])
        refine wpGrA_bytes_slice (i := 9) (j := 12) (b3) rfl rfl (by kernel_rfl) (by rfl) (fun w' => by go_simp) (fun w' hb => (HV3.out w' (HB.out.trans (hb.mono HB.out.size)))) (by rfl) _ _ 1 _ rfl Try.underlying22 [(0, .int .u8 (x.src : Int))] rfl ([.int .u8 (x.src : Int)]) HBU.out (by simp) (by decide) ?_ ?_
        · intro B4 d4 v4 hb hq
          have Q1n := hid ((Q1.out.below hb).more hb.size)
          have Q2n := hid ((Q2.out.below hb).more hb.size)
          have Q3n := hid ((Q3.out.below hb).more hb.size)
          have HBn := hid (HB.out.trans (hb.mono HB.out.size))
          clear HB Q1 Q2 Q3
          have HB := HBn
          have Q1 := Q1n
          have Q2 := Q2n
          have Q3 := Q3n
          clear HBn Q1n Q2n Q3n
          have Q4 := hid hq
          clear hb hq
          (try simp only [Act.put, List.getElem_toArray, List.getElem_cons_succ, List.getElem_cons_zero, List.setIfInBounds_toArray, List.set_cons_zero, List.set_cons_succ])
          refine wpGrA_slice1 (i := 12) rfl (by kernel_rfl) (by rfl) _ _ 1 _ rfl Try.underlying22 [(0, .int .u8 (x.src : Int))] rfl ([.int .u8 (x.src : Int)]) HBU.out (by simp) (by decide) ?_
          intro p5 v5 hb hq
          have Q1n := hid ((Q1.out.below hb).more hb.size)
          have Q2n := hid ((Q2.out.below hb).more hb.size)
          have Q3n := hid ((Q3.out.below hb).more hb.size)
          have Q4n := hid ((Q4.out.below hb).more hb.size)
          have HBn := hid (HB.out.trans (hb.mono HB.out.size))
          clear HB Q1 Q2 Q3 Q4
          have HB := HBn
          have Q1 := Q1n
          have Q2 := Q2n
          have Q3 := Q3n
          have Q4 := Q4n
          clear HBn Q1n Q2n Q3n Q4n
          have Q5 := hid hq
          clear hb hq
          (try simp only [Act.put, List.getElem_toArray, List.getElem_cons_succ, List.getElem_cons_zero, List.setIfInBounds_toArray, List.set_cons_zero, List.set_cons_succ])
          refine wpGrA_end (by kernel_rfl) ?_
          intro wz hb
          have Q1n := hid ((Q1.out.below hb).more hb.size)
          have Q2n := hid ((Q2.out.below hb).more hb.size)
          have Q3n := hid ((Q3.out.below hb).more hb.size)
          have Q4n := hid ((Q4.out.below hb).more hb.size)
          have Q5n := hid ((Q5.out.below hb).more hb.size)
          have HBn := hid (HB.out.trans (hb.mono HB.out.size))
          clear HB Q1 Q2 Q3 Q4 Q5
          have HB := HBn
          have Q1 := Q1n
          have Q2 := Q2n
          have Q3 := Q3n
          have Q4 := Q4n
          have Q5 := Q5n
          clear HBn Q1n Q2n Q3n Q4n Q5n
          clear hb
          refine wpLA_here ?_
          refine wpLA_q (b3 ++ [sb]) (by rfl) (fun w' => by go_simp) (fun w' hb => (join16 B4 b3 d4 (some ⟨p5, 0, none⟩) [sb] 1 w' ((Q4.out.below hb).more hb.size).lie (by have h := ((Q5.out.below hb).more hb.size).lie; rw [HSB.out]; exact h) (by have := HN.out; (try simp only [List.length_append, List.length_cons, List.length_nil]); omega) (by have := HN.out; (try simp only [List.length_append, List.length_cons, List.length_nil]); omega))) ?_
          intro B6 d6 v6 hb hq
          have Q1n := hid ((Q1.out.below hb).more hb.size)
          have Q2n := hid ((Q2.out.below hb).more hb.size)
          have Q3n := hid ((Q3.out.below hb).more hb.size)
          have Q4n := hid ((Q4.out.below hb).more hb.size)
          have Q5n := hid ((Q5.out.below hb).more hb.size)
          have HBn := hid (HB.out.trans (hb.mono HB.out.size))
          clear HB Q1 Q2 Q3 Q4 Q5
          have HB := HBn
          have Q1 := Q1n
          have Q2 := Q2n
          have Q3 := Q3n
          have Q4 := Q4n
          have Q5 := Q5n
          clear HBn Q1n Q2n Q3n Q4n Q5n
          have Q6 := hid hq
          clear hb hq
          (try simp only [Act.put, List.getElem_toArray, List.getElem_cons_succ, List.getElem_cons_zero, List.setIfInBounds_toArray, List.set_cons_zero, List.set_cons_succ])
          refine wpLA_q ((b1 ++ b2) ++ (b3 ++ [sb])) (by rfl) (fun w' => by go_simp) (fun w' hb => (join16 B3 (b1 ++ b2) d3 B6 (b3 ++ [sb]) d6 w' ((Q3.out.below hb).more hb.size).lie ((Q6.out.below hb).more hb.size).lie (by have := HN.out; (try simp only [List.length_append, List.length_cons, List.length_nil]); omega) (by have := HN.out; (try simp only [List.length_append, List.length_cons, List.length_nil]); omega))) ?_
          intro B7 d7 v7 hb hq
          have Q1n := hid ((Q1.out.below hb).more hb.size)
          have Q2n := hid ((Q2.out.below hb).more hb.size)
          have Q3n := hid ((Q3.out.below hb).more hb.size)
          have Q4n := hid ((Q4.out.below hb).more hb.size)
          have Q5n := hid ((Q5.out.below hb).more hb.size)
          have Q6n := hid ((Q6.out.below hb).more hb.size)
          have HBn := hid (HB.out.trans (hb.mono HB.out.size))
          clear HB Q1 Q2 Q3 Q4 Q5 Q6
          have HB := HBn
          have Q1 := Q1n
          have Q2 := Q2n
          have Q3 := Q3n
          have Q4 := Q4n
          have Q5 := Q5n
          have Q6 := Q6n
          clear HBn Q1n Q2n Q3n Q4n Q5n Q6n
          have Q7 := hid hq
          clear hb hq
          (try simp only [Act.put, List.getElem_toArray, List.getElem_cons_succ, List.getElem_cons_zero, List.setIfInBounds_toArray, List.set_cons_zero, List.set_cons_succ])
          refine wpLA_take (.slice B7 ((b1 ++ b2) ++ (b3 ++ [sb])).length d7) (yG_val _ (by rfl) (fun w' _ => by (go_simp; try rfl))) ?_
          (try simp only [Act.put, List.getElem_toArray, List.getElem_cons_succ, List.getElem_cons_zero, List.setIfInBounds_toArray, List.set_cons_zero, List.set_cons_succ])
          refine wpLA_end ?_
          intro we hb
          have Q1n := hid ((Q1.out.below hb).more hb.size)
          have Q2n := hid ((Q2.out.below hb).more hb.size)
          have Q3n := hid ((Q3.out.below hb).more hb.size)
          have Q4n := hid ((Q4.out.below hb).more hb.size)
          have Q5n := hid ((Q5.out.below hb).more hb.size)
          have Q6n := hid ((Q6.out.below hb).more hb.size)
          have Q7n := hid ((Q7.out.below hb).more hb.size)
          have HBn := hid (HB.out.trans (hb.mono HB.out.size))
          clear HB Q1 Q2 Q3 Q4 Q5 Q6 Q7
          have HB := HBn
          have Q1 := Q1n
          have Q2 := Q2n
          have Q3 := Q3n
          have Q4 := Q4n
          have Q5 := Q5n
          have Q6 := Q6n
          have Q7 := Q7n
          clear HBn Q1n Q2n Q3n Q4n Q5n Q6n Q7n
          clear hb
          obtain ⟨m, hm⟩ : ∃ t, t = (b1 ++ b2) ++ (b3 ++ [sb]) := ⟨_, rfl⟩
          rw [← hm] at Q7 HA ⊢
          have HML : Hid (m.length ≤ 400000) := hid (by rw [hm]; have := HN.out; simp only [List.length_append, List.length_cons, List.length_nil]; omega)
          clear hm
          have K2 := (HB.out.block _ (block_lt K1.out)).trans K1.out
          have c3 := cell_of K2 3 _ rfl; have c4 := cell_of K2 4 _ rfl
          by_cases h3 : x.src = 3
          · have h3i : (x.src : Int) = 3 := by omega
            rw [if_pos h3] at HA
            go_wp2_with fail
            refine (HV4.out _ HB.out).mono ?_
            rintro e wf ⟨A8, c8, rfl, hs8, hb⟩
            have Q8 := hid hs8
            have QM := hid ((Q7.out.below hb).more hb.size)
            have HBn := hid (HB.out.trans (hb.mono HB.out.size))
            clear hs8 hb HB
            go_wp2_with fail
            refine (join16 B7 m d7 A8 b4 c8 wf QM.out.lie Q8.out.lie (by have := HML.out; omega) (by have := HN.out; omega)).mono ?_
            rintro e wg ⟨A9, c9, rfl, hs9, hb⟩
            have HB := hid (HW0.out.trans ((HBn.out.trans (hb.mono HBn.out.size)).mono HW0.out.size))
            have Q9 := hid hs9
            clear hs9 hb HBn
            go_wp2
            go_ret
            exact ⟨A9, c9, by rw [HA.out, List.length_append]; rfl, by rw [HA.out]; exact Q9.out, HB.out⟩
          · have h3i : ¬ (x.src : Int) = 3 := by omega
            rw [if_neg h3, List.append_nil] at HA
            go_wp2
            go_ret
            exact ⟨B7, d7, by rw [HA.out]; rfl, by rw [HA.out]; exact Q7.out, HW0.out.trans (HB.out.mono HW0.out.size)⟩
        · intro p4 v4 hb hq
          have Q1n := hid ((Q1.out.below hb).more hb.size)
          have Q2n := hid ((Q2.out.below hb).more hb.size)
          have Q3n := hid ((Q3.out.below hb).more hb.size)
          have HBn := hid (HB.out.trans (hb.mono HB.out.size))
          clear HB Q1 Q2 Q3
          have HB := HBn
          have Q1 := Q1n
          have Q2 := Q2n
          have Q3 := Q3n
          clear HBn Q1n Q2n Q3n
          have Q4 := hid hq
          clear hb hq
          (try simp only [Act.put, List.getElem_toArray, List.getElem_cons_succ, List.getElem_cons_zero, List.setIfInBounds_toArray, List.set_cons_zero, List.set_cons_succ])
          refine wpGrA_q (i := 9) (b3) rfl (by kernel_rfl) (by rfl) (fun w' => by go_simp) (fun w' hb => (HV3.out w' (HB.out.trans (hb.mono HB.out.size)))) ?_
          intro B5 d5 v5 hb hq
          have Q1n := hid ((Q1.out.below hb).more hb.size)
          have Q2n := hid ((Q2.out.below hb).more hb.size)
          have Q3n := hid ((Q3.out.below hb).more hb.size)
          have Q4n := hid ((Q4.out.below hb).more hb.size)
          have HBn := hid (HB.out.trans (hb.mono HB.out.size))
          clear HB Q1 Q2 Q3 Q4
          have HB := HBn
          have Q1 := Q1n
          have Q2 := Q2n
          have Q3 := Q3n
          have Q4 := Q4n
          clear HBn Q1n Q2n Q3n Q4n
          have Q5 := hid hq
          clear hb hq
          (try simp only [Act.put, List.getElem_toArray, List.getElem_cons_succ, List.getElem_cons_zero, List.setIfInBounds_toArray, List.set_cons_zero, List.set_cons_succ])
          refine wpGrA_end (by kernel_rfl) ?_
          intro wz hb
          have Q1n := hid ((Q1.out.below hb).more hb.size)
          have Q2n := hid ((Q2.out.below hb).more hb.size)
          have Q3n := hid ((Q3.out.below hb).more hb.size)
          have Q4n := hid ((Q4.out.below hb).more hb.size)
          have Q5n := hid ((Q5.out.below hb).more hb.size)
          have HBn := hid (HB.out.trans (hb.mono HB.out.size))
          clear HB Q1 Q2 Q3 Q4 Q5
          have HB := HBn
          have Q1 := Q1n
          have Q2 := Q2n
          have Q3 := Q3n
          have Q4 := Q4n
          have Q5 := Q5n
          clear HBn Q1n Q2n Q3n Q4n Q5n
          clear hb
          refine wpLA_here ?_
          refine wpLA_q (b3 ++ [sb]) (by rfl) (fun w' => by go_simp) (fun w' hb => (join16 B5 b3 d5 (some ⟨p4, 0, none⟩) [sb] 1 w' ((Q5.out.below hb).more hb.size).lie (by have h := ((Q4.out.below hb).more hb.size).lie; rw [HSB.out]; exact h) (by have := HN.out; (try simp only [List.length_append, List.length_cons, List.length_nil]); omega) (by have := HN.out; (try simp only [List.length_append, List.length_cons, List.length_nil]); omega))) ?_
          intro B6 d6 v6 hb hq
          have Q1n := hid ((Q1.out.below hb).more hb.size)
          have Q2n := hid ((Q2.out.below hb).more hb.size)
          have Q3n := hid ((Q3.out.below hb).more hb.size)
          have Q4n := hid ((Q4.out.below hb).more hb.size)
          have Q5n := hid ((Q5.out.below hb).more hb.size)
          have HBn := hid (HB.out.trans (hb.mono HB.out.size))
          clear HB Q1 Q2 Q3 Q4 Q5
          have HB := HBn
          have Q1 := Q1n
          have Q2 := Q2n
          have Q3 := Q3n
          have Q4 := Q4n
          have Q5 := Q5n
          clear HBn Q1n Q2n Q3n Q4n Q5n
          have Q6 := hid hq
          clear hb hq
          (try simp only [Act.put, List.getElem_toArray, List.getElem_cons_succ, List.getElem_cons_zero, List.setIfInBounds_toArray, List.set_cons_zero, List.set_cons_succ])
          refine wpLA_q ((b1 ++ b2) ++ (b3 ++ [sb])) (by rfl) (fun w' => by go_simp) (fun w' hb => (join16 B3 (b1 ++ b2) d3 B6 (b3 ++ [sb]) d6 w' ((Q3.out.below hb).more hb.size).lie ((Q6.out.below hb).more hb.size).lie (by have := HN.out; (try simp only [List.length_append, List.length_cons, List.length_nil]); omega) (by have := HN.out; (try simp only [List.length_append, List.length_cons, List.length_nil]); omega))) ?_
          intro B7 d7 v7 hb hq
          have Q1n := hid ((Q1.out.below hb).more hb.size)
          have Q2n := hid ((Q2.out.below hb).more hb.size)
          have Q3n := hid ((Q3.out.below hb).more hb.size)
          have Q4n := hid ((Q4.out.below hb).more hb.size)
          have Q5n := hid ((Q5.out.below hb).more hb.size)
          have Q6n := hid ((Q6.out.below hb).more hb.size)
          have HBn := hid (HB.out.trans (hb.mono HB.out.size))
          clear HB Q1 Q2 Q3 Q4 Q5 Q6
          have HB := HBn
          have Q1 := Q1n
          have Q2 := Q2n
          have Q3 := Q3n
          have Q4 := Q4n
          have Q5 := Q5n
          have Q6 := Q6n
          clear HBn Q1n Q2n Q3n Q4n Q5n Q6n
          have Q7 := hid hq
          clear hb hq
          (try simp only [Act.put, List.getElem_toArray, List.getElem_cons_succ, List.getElem_cons_zero, List.setIfInBounds_toArray, List.set_cons_zero, List.set_cons_succ])
          refine wpLA_take (.slice B7 ((b1 ++ b2) ++ (b3 ++ [sb])).length d7) (yG_val _ (by rfl) (fun w' _ => by (go_simp; try rfl))) ?_
          (try simp only [Act.put, List.getElem_toArray, List.getElem_cons_succ, List.getElem_cons_zero, List.setIfInBounds_toArray, List.set_cons_zero, List.set_cons_succ])
          refine wpLA_end ?_
          intro we hb
          have Q1n := hid ((Q1.out.below hb).more hb.size)
          have Q2n := hid ((Q2.out.below hb).more hb.size)
          have Q3n := hid ((Q3.out.below hb).more hb.size)
          have Q4n := hid ((Q4.out.below hb).more hb.size)
          have Q5n := hid ((Q5.out.below hb).more hb.size)
          have Q6n := hid ((Q6.out.below hb).more hb.size)
          have Q7n := hid ((Q7.out.below hb).more hb.size)
          have HBn := hid (HB.out.trans (hb.mono HB.out.size))
          clear HB Q1 Q2 Q3 Q4 Q5 Q6 Q7
          have HB := HBn
          have Q1 := Q1n
          have Q2 := Q2n
          have Q3 := Q3n
          have Q4 := Q4n
          have Q5 := Q5n
          have Q6 := Q6n
          have Q7 := Q7n
          clear HBn Q1n Q2n Q3n Q4n Q5n Q6n Q7n
          clear hb
          obtain ⟨m, hm⟩ : ∃ t, t = (b1 ++ b2) ++ (b3 ++ [sb]) := ⟨_, rfl⟩
          rw [← hm] at Q7 HA ⊢
          have HML : Hid (m.length ≤ 400000) := hid (by rw [hm]; have := HN.out; simp only [List.length_append, List.length_cons, List.length_nil]; omega)
          clear hm
          have K2 := (HB.out.block _ (block_lt K1.out)).trans K1.out
          have c3 := cell_of K2 3 _ rfl; have c4 := cell_of K2 4 _ rfl
          by_cases h3 : x.src = 3
          · have h3i : (x.src : Int) = 3 := by omega
            rw [if_pos h3] at HA
            go_wp2_with fail
            refine (HV4.out _ HB.out).mono ?_
            rintro e wf ⟨A8, c8, rfl, hs8, hb⟩
            have Q8 := hid hs8
            have QM := hid ((Q7.out.below hb).more hb.size)
            have HBn := hid (HB.out.trans (hb.mono HB.out.size))
            clear hs8 hb HB
            go_wp2_with fail
            refine (join16 B7 m d7 A8 b4 c8 wf QM.out.lie Q8.out.lie (by have := HML.out; omega) (by have := HN.out; omega)).mono ?_
            rintro e wg ⟨A9, c9, rfl, hs9, hb⟩
            have HB := hid (HW0.out.trans ((HBn.out.trans (hb.mono HBn.out.size)).mono HW0.out.size))
            have Q9 := hid hs9
            clear hs9 hb HBn
            go_wp2
            go_ret
            exact ⟨A9, c9, by rw [HA.out, List.length_append]; rfl, by rw [HA.out]; exact Q9.out, HB.out⟩
          · have h3i : ¬ (x.src : Int) = 3 := by omega
            rw [if_neg h3, List.append_nil] at HA
            go_wp2
            go_ret
            exact ⟨B7, d7, by rw [HA.out]; rfl, by rw [HA.out]; exact Q7.out, HW0.out.trans (HB.out.mono HW0.out.size)⟩
      · intro p3 v3 hb hq
        have Q1n := hid ((Q1.out.below hb).more hb.size)
        have Q2n := hid ((Q2.out.below hb).more hb.size)
        have HBn := hid (HB.out.trans (hb.mono HB.out.size))
        clear HB Q1 Q2
        have HB := HBn
        have Q1 := Q1n
        have Q2 := Q2n
        clear HBn Q1n Q2n
        have Q3 := hid hq
        clear hb hq
        (try simp only [Act.put, List.getElem_toArray, List.getElem_cons_succ, List.getElem_cons_zero, List.setIfInBounds_toArray, List.set_cons_zero, List.set_cons_succ])
        refine wpGrA_q (i := 6) (b1 ++ b2) rfl (by kernel_rfl) (by rfl) (fun w' => by go_simp) (fun w' hb => (join16 B1 (b1) d1 B2 (b2) d2 w' ((Q1.out.below hb).more hb.size).lie ((Q2.out.below hb).more hb.size).lie (by have := HN.out; (try simp only [List.length_append, List.length_cons, List.length_nil]); omega) (by have := HN.out; (try simp only [List.length_append, List.length_cons, List.length_nil]); omega))) ?_
        intro B4 d4 v4 hb hq
        have Q1n := hid ((Q1.out.below hb).more hb.size)
        have Q2n := hid ((Q2.out.below hb).more hb.size)
        have Q3n := hid ((Q3.out.below hb).more hb.size)
        have HBn := hid (HB.out.trans (hb.mono HB.out.size))
        clear HB Q1 Q2 Q3
        have HB := HBn
        have Q1 := Q1n
        have Q2 := Q2n
        have Q3 := Q3n
        clear HBn Q1n Q2n Q3n
        have Q4 := hid hq
        clear hb hq
        (try simp only [Act.put, List.getElem_toArray, List.getElem_cons_succ, List.getElem_cons_zero, List.setIfInBounds_toArray, List.set_cons_zero, List.set_cons_succ])
        refine wpGrA_q (i := 9) (b3) rfl (by kernel_rfl) (by rfl) (fun w' => by go_simp) (fun w' hb => (HV3.out w' (HB.out.trans (hb.mono HB.out.size)))) ?_
        intro B5 d5 v5 hb hq
        have Q1n := hid ((Q1.out.below hb).more hb.size)
        have Q2n := hid ((Q2.out.below hb).more hb.size)
        have Q3n := hid ((Q3.out.below hb).more hb.size)
        have Q4n := hid ((Q4.out.below hb).more hb.size)
        have HBn := hid (HB.out.trans (hb.mono HB.out.size))
        clear HB Q1 Q2 Q3 Q4
        have HB := HBn
        have Q1 := Q1n
        have Q2 := Q2n
        have Q3 := Q3n
        have Q4 := Q4n
        clear HBn Q1n Q2n Q3n Q4n
        have Q5 := hid hq
        clear hb hq
        (try simp only [Act.put, List.getElem_toArray, List.getElem_cons_succ, List.getElem_cons_zero, List.setIfInBounds_toArray, List.set_cons_zero, List.set_cons_succ])
        refine wpGrA_end (by kernel_rfl) ?_
        intro wz hb
        have Q1n := hid ((Q1.out.below hb).more hb.size)
        have Q2n := hid ((Q2.out.below hb).more hb.size)
        have Q3n := hid ((Q3.out.below hb).more hb.size)
        have Q4n := hid ((Q4.out.below hb).more hb.size)
        have Q5n := hid ((Q5.out.below hb).more hb.size)
        have HBn := hid (HB.out.trans (hb.mono HB.out.size))
        clear HB Q1 Q2 Q3 Q4 Q5
        have HB := HBn
        have Q1 := Q1n
        have Q2 := Q2n
        have Q3 := Q3n
        have Q4 := Q4n
        have Q5 := Q5n
        clear HBn Q1n Q2n Q3n Q4n Q5n
        clear hb
        refine wpLA_here ?_
        refine wpLA_q (b3 ++ [sb]) (by rfl) (fun w' => by go_simp) (fun w' hb => (join16 B5 b3 d5 (some ⟨p3, 0, none⟩) [sb] 1 w' ((Q5.out.below hb).more hb.size).lie (by have h := ((Q3.out.below hb).more hb.size).lie; rw [HSB.out]; exact h) (by have := HN.out; (try simp only [List.length_append, List.length_cons, List.length_nil]); omega) (by have := HN.out; (try simp only [List.length_append, List.length_cons, List.length_nil]); omega))) ?_
        intro B6 d6 v6 hb hq
        have Q1n := hid ((Q1.out.below hb).more hb.size)
        have Q2n := hid ((Q2.out.below hb).more hb.size)
        have Q3n := hid ((Q3.out.below hb).more hb.size)
        have Q4n := hid ((Q4.out.below hb).more hb.size)
        have Q5n := hid ((Q5.out.below hb).more hb.size)
        have HBn := hid (HB.out.trans (hb.mono HB.out.size))
        clear HB Q1 Q2 Q3 Q4 Q5
        have HB := HBn
        have Q1 := Q1n
        have Q2 := Q2n
        have Q3 := Q3n
        have Q4 := Q4n
        have Q5 := Q5n
        clear HBn Q1n Q2n Q3n Q4n Q5n
        have Q6 := hid hq
        clear hb hq
        (try simp only [Act.put, List.getElem_toArray, List.getElem_cons_succ, List.getElem_cons_zero, List.setIfInBounds_toArray, List.set_cons_zero, List.set_cons_succ])
        refine wpLA_q ((b1 ++ b2) ++ (b3 ++ [sb])) (by rfl) (fun w' => by go_simp) (fun w' hb => (join16 B4 (b1 ++ b2) d4 B6 (b3 ++ [sb]) d6 w' ((Q4.out.below hb).more hb.size).lie ((Q6.out.below hb).more hb.size).lie (by have := HN.out; (try simp only [List.length_append, List.length_cons, List.length_nil]); omega) (by have := HN.out; (try simp only [List.length_append, List.length_cons, List.length_nil]); omega))) ?_
        intro B7 d7 v7 hb hq
        have Q1n := hid ((Q1.out.below hb).more hb.size)
        have Q2n := hid ((Q2.out.below hb).more hb.size)
        have Q3n := hid ((Q3.out.below hb).more hb.size)
        have Q4n := hid ((Q4.out.below hb).more hb.size)
        have Q5n := hid ((Q5.out.below hb).more hb.size)
        have Q6n := hid ((Q6.out.below hb).more hb.size)
        have HBn := hid (HB.out.trans (hb.mono HB.out.size))
        clear HB Q1 Q2 Q3 Q4 Q5 Q6
        have HB := HBn
        have Q1 := Q1n
        have Q2 := Q2n
        have Q3 := Q3n
        have Q4 := Q4n
        have Q5 := Q5n
        have Q6 := Q6n
        clear HBn Q1n Q2n Q3n Q4n Q5n Q6n
        have Q7 := hid hq
        clear hb hq
        (try simp only [Act.put, List.getElem_toArray, List.getElem_cons_succ, List.getElem_cons_zero, List.setIfInBounds_toArray, List.set_cons_zero, List.set_cons_succ])
        refine wpLA_take (.slice B7 ((b1 ++ b2) ++ (b3 ++ [sb])).length d7) (yG_val _ (by rfl) (fun w' _ => by (go_simp; try rfl))) ?_
        (try simp only [Act.put, List.getElem_toArray, List.getElem_cons_succ, List.getElem_cons_zero, List.setIfInBounds_toArray, List.set_cons_zero, List.set_cons_succ])
        refine wpLA_end ?_
        intro we hb
        have Q1n := hid ((Q1.out.below hb).more hb.size)
        have Q2n := hid ((Q2.out.below hb).more hb.size)
        have Q3n := hid ((Q3.out.below hb).more hb.size)
        have Q4n := hid ((Q4.out.below hb).more hb.size)
        have Q5n := hid ((Q5.out.below hb).more hb.size)
        have Q6n := hid ((Q6.out.below hb).more hb.size)
        have Q7n := hid ((Q7.out.below hb).more hb.size)
        have HBn := hid (HB.out.trans (hb.mono HB.out.size))
        clear HB Q1 Q2 Q3 Q4 Q5 Q6 Q7
        have HB := HBn
        have Q1 := Q1n
        have Q2 := Q2n
        have Q3 := Q3n
        have Q4 := Q4n
        have Q5 := Q5n
        have Q6 := Q6n
        have Q7 := Q7n
        clear HBn Q1n Q2n Q3n Q4n Q5n Q6n Q7n
        clear hb
        obtain ⟨m, hm⟩ : ∃ t, t = (b1 ++ b2) ++ (b3 ++ [sb]) := ⟨_, rfl⟩
        rw [← hm] at Q7 HA ⊢
        have HML : Hid (m.length ≤ 400000) := hid (by rw [hm]; have := HN.out; simp only [List.length_append, List.length_cons, List.length_nil]; omega)
        clear hm
        have K2 := (HB.out.block _ (block_lt K1.out)).trans K1.out
        have c3 := cell_of K2 3 _ rfl; have c4 := cell_of K2 4 _ rfl
        by_cases h3 : x.src = 3
        · have h3i : (x.src : Int) = 3 := by omega
          rw [if_pos h3] at HA
          go_wp2_with fail
          refine (HV4.out _ HB.out).mono ?_
          rintro e wf ⟨A8, c8, rfl, hs8, hb⟩
          have Q8 := hid hs8
          have QM := hid ((Q7.out.below hb).more hb.size)
          have HBn := hid (HB.out.trans (hb.mono HB.out.size))
          clear hs8 hb HB
          go_wp2_with fail
          refine (join16 B7 m d7 A8 b4 c8 wf QM.out.lie Q8.out.lie (by have := HML.out; omega) (by have := HN.out; omega)).mono ?_
          rintro e wg ⟨A9, c9, rfl, hs9, hb⟩
          have HB := hid (HW0.out.trans ((HBn.out.trans (hb.mono HBn.out.size)).mono HW0.out.size))
          have Q9 := hid hs9
          clear hs9 hb HBn
          go_wp2
          go_ret
          exact ⟨A9, c9, by rw [HA.out, List.length_append]; rfl, by rw [HA.out]; exact Q9.out, HB.out⟩
        · have h3i : ¬ (x.src : Int) = 3 := by omega
          rw [if_neg h3, List.append_nil] at HA
          go_wp2
          go_ret
          exact ⟨B7, d7, by rw [HA.out]; rfl, by rw [HA.out]; exact Q7.out, HW0.out.trans (HB.out.mono HW0.out.size)⟩
    · intro p2 v2 hb hq
      have Q1n := hid ((Q1.out.below hb).more hb.size)
      have HBn := hid (HB.out.trans (hb.mono HB.out.size))
      clear HB Q1
      have HB := HBn
      have Q1 := Q1n
      clear HBn Q1n
      have Q2 := hid hq
      clear hb hq
      (try simp only [Act.put, List.getElem_toArray, List.getElem_cons_succ, List.getElem_cons_zero, List.setIfInBounds_toArray, List.set_cons_zero, List.set_cons_succ])
      refine wpGrA_q (i := 5) (b2) rfl (by kernel_rfl) (by rfl) (fun w' => by go_simp) (fun w' hb => (HV2.out w' (HB.out.trans (hb.mono HB.out.size)))) ?_
      intro B3 d3 v3 hb hq
      have Q1n := hid ((Q1.out.below hb).more hb.size)
      have Q2n := hid ((Q2.out.below hb).more hb.size)
      have HBn := hid (HB.out.trans (hb.mono HB.out.size))
      clear HB Q1 Q2
      have HB := HBn
      have Q1 := Q1n
      have Q2 := Q2n
      clear HBn Q1n Q2n
      have Q3 := hid hq
      clear hb hq
      (try simp only [Act.put, List.getElem_toArray, List.getElem_cons_succ, List.getElem_cons_zero, List.setIfInBounds_toArray, List.set_cons_zero, List.set_cons_succ])
      refine wpGrA_q (i := 6) (b1 ++ b2) rfl (by kernel_rfl) (by rfl) (fun w' => by go_simp) (fun w' hb => (join16 B1 (b1) d1 B3 (b2) d3 w' ((Q1.out.below hb).more hb.size).lie ((Q3.out.below hb).more hb.size).lie (by have := HN.out; (try simp only [List.length_append, List.length_cons, List.length_nil]); omega) (by have := HN.out; (try simp only [List.length_append, List.length_cons, List.length_nil]); omega))) ?_
      intro B4 d4 v4 hb hq
      have Q1n := hid ((Q1.out.below hb).more hb.size)
      have Q2n := hid ((Q2.out.below hb).more hb.size)
      have Q3n := hid ((Q3.out.below hb).more hb.size)
      have HBn := hid (HB.out.trans (hb.mono HB.out.size))
      clear HB Q1 Q2 Q3
      have HB := HBn
      have Q1 := Q1n
      have Q2 := Q2n
      have Q3 := Q3n
      clear HBn Q1n Q2n Q3n
      have Q4 := hid hq
      clear hb hq
      (try simp only [Act.put, List.getElem_toArray, List.getElem_cons_succ, List.getElem_cons_zero, List.setIfInBounds_toArray, List.set_cons_zero, List.set_cons_succ])
      refine wpGrA_q (i := 9) (b3) rfl (by kernel_rfl) (by rfl) (fun w' => by go_simp) (fun w' hb => (HV3.out w' (HB.out.trans (hb.mono HB.out.size)))) ?_
      intro B5 d5 v5 hb hq
      have Q1n := hid ((Q1.out.below hb).more hb.size)
      have Q2n := hid ((Q2.out.below hb).more hb.size)
      have Q3n := hid ((Q3.out.below hb).more hb.size)
      have Q4n := hid ((Q4.out.below hb).more hb.size)
      have HBn := hid (HB.out.trans (hb.mono HB.out.size))
      clear HB Q1 Q2 Q3 Q4
      have HB := HBn
      have Q1 := Q1n
      have Q2 := Q2n
      have Q3 := Q3n
      have Q4 := Q4n
      clear HBn Q1n Q2n Q3n Q4n
      have Q5 := hid hq
      clear hb hq
      (try simp only [Act.put, List.getElem_toArray, List.getElem_cons_succ, List.getElem_cons_zero, List.setIfInBounds_toArray, List.set_cons_zero, List.set_cons_succ])
      refine wpGrA_end (by kernel_rfl) ?_
      intro wz hb
      have Q1n := hid ((Q1.out.below hb).more hb.size)
      have Q2n := hid ((Q2.out.below hb).more hb.size)
      have Q3n := hid ((Q3.out.below hb).more hb.size)
      have Q4n := hid ((Q4.out.below hb).more hb.size)
      have Q5n := hid ((Q5.out.below hb).more hb.size)
      have HBn := hid (HB.out.trans (hb.mono HB.out.size))
      clear HB Q1 Q2 Q3 Q4 Q5
      have HB := HBn
      have Q1 := Q1n
      have Q2 := Q2n
      have Q3 := Q3n
      have Q4 := Q4n
      have Q5 := Q5n
      clear HBn Q1n Q2n Q3n Q4n Q5n
      clear hb
      refine wpLA_here ?_
      refine wpLA_q (b3 ++ [sb]) (by rfl) (fun w' => by go_simp) (fun w' hb => (join16 B5 b3 d5 (some ⟨p2, 0, none⟩) [sb] 1 w' ((Q5.out.below hb).more hb.size).lie (by have h := ((Q2.out.below hb).more hb.size).lie; rw [HSB.out]; exact h) (by have := HN.out; (try simp only [List.length_append, List.length_cons, List.length_nil]); omega) (by have := HN.out; (try simp only [List.length_append, List.length_cons, List.length_nil]); omega))) ?_
      intro B6 d6 v6 hb hq
      have Q1n := hid ((Q1.out.below hb).more hb.size)
      have Q2n := hid ((Q2.out.below hb).more hb.size)
      have Q3n := hid ((Q3.out.below hb).more hb.size)
      have Q4n := hid ((Q4.out.below hb).more hb.size)
      have Q5n := hid ((Q5.out.below hb).more hb.size)
      have HBn := hid (HB.out.trans (hb.mono HB.out.size))
      clear HB Q1 Q2 Q3 Q4 Q5
      have HB := HBn
      have Q1 := Q1n
      have Q2 := Q2n
      have Q3 := Q3n
      have Q4 := Q4n
      have Q5 := Q5n
      clear HBn Q1n Q2n Q3n Q4n Q5n
      have Q6 := hid hq
      clear hb hq
      (try simp only [Act.put, List.getElem_toArray, List.getElem_cons_succ, List.getElem_cons_zero, List.setIfInBounds_toArray, List.set_cons_zero, List.set_cons_succ])
      refine wpLA_q ((b1 ++ b2) ++ (b3 ++ [sb])) (by rfl) (fun w' => by go_simp) (fun w' hb => (join16 B4 (b1 ++ b2) d4 B6 (b3 ++ [sb]) d6 w' ((Q4.out.below hb).more hb.size).lie ((Q6.out.below hb).more hb.size).lie (by have := HN.out; (try simp only [List.length_append, List.length_cons, List.length_nil]); omega) (by have := HN.out; (try simp only [List.length_append, List.length_cons, List.length_nil]); omega))) ?_
      intro B7 d7 v7 hb hq
      have Q1n := hid ((Q1.out.below hb).more hb.size)
      have Q2n := hid ((Q2.out.below hb).more hb.size)
      have Q3n := hid ((Q3.out.below hb).more hb.size)
      have Q4n := hid ((Q4.out.below hb).more hb.size)
      have Q5n := hid ((Q5.out.below hb).more hb.size)
      have Q6n := hid ((Q6.out.below hb).more hb.size)
      have HBn := hid (HB.out.trans (hb.mono HB.out.size))
      clear HB Q1 Q2 Q3 Q4 Q5 Q6
      have HB := HBn
      have Q1 := Q1n
      have Q2 := Q2n
      have Q3 := Q3n
      have Q4 := Q4n
      have Q5 := Q5n
      have Q6 := Q6n
      clear HBn Q1n Q2n Q3n Q4n Q5n Q6n
      have Q7 := hid hq
      clear hb hq
      (try simp only [Act.put, List.getElem_toArray, List.getElem_cons_succ, List.getElem_cons_zero, List.setIfInBounds_toArray, List.set_cons_zero, List.set_cons_succ])
      refine wpLA_take (.slice B7 ((b1 ++ b2) ++ (b3 ++ [sb])).length d7) (yG_val _ (by rfl) (fun w' _ => by (go_simp; try rfl))) ?_
      (try simp only [Act.put, List.getElem_toArray, List.getElem_cons_succ, List.getElem_cons_zero, List.setIfInBounds_toArray, List.set_cons_zero, List.set_cons_succ])
      refine wpLA_end ?_
      intro we hb
      have Q1n := hid ((Q1.out.below hb).more hb.size)
      have Q2n := hid ((Q2.out.below hb).more hb.size)
      have Q3n := hid ((Q3.out.below hb).more hb.size)
      have Q4n := hid ((Q4.out.below hb).more hb.size)
      have Q5n := hid ((Q5.out.below hb).more hb.size)
      have Q6n := hid ((Q6.out.below hb).more hb.size)
      have Q7n := hid ((Q7.out.below hb).more hb.size)
      have HBn := hid (HB.out.trans (hb.mono HB.out.size))
      clear HB Q1 Q2 Q3 Q4 Q5 Q6 Q7
      have HB := HBn
      have Q1 := Q1n
      have Q2 := Q2n
      have Q3 := Q3n
      have Q4 := Q4n
      have Q5 := Q5n
      have Q6 := Q6n
      have Q7 := Q7n
      clear HBn Q1n Q2n Q3n Q4n Q5n Q6n Q7n
      clear hb
      obtain ⟨m, hm⟩ : ∃ t, t = (b1 ++ b2) ++ (b3 ++ [sb]) := ⟨_, rfl⟩
      rw [← hm] at Q7 HA ⊢
      have HML : Hid (m.length ≤ 400000) := hid (by rw [hm]; have := HN.out; simp only [List.length_append, List.length_cons, List.length_nil]; omega)
      clear hm
      have K2 := (HB.out.block _ (block_lt K1.out)).trans K1.out
      have c3 := cell_of K2 3 _ rfl; have c4 := cell_of K2 4 _ rfl
      by_cases h3 : x.src = 3
      · have h3i : (x.src : Int) = 3 := by omega
        rw [if_pos h3] at HA
        go_wp2_with fail
        refine (HV4.out _ HB.out).mono ?_
        rintro e wf ⟨A8, c8, rfl, hs8, hb⟩
        have Q8 := hid hs8
        have QM := hid ((Q7.out.below hb).more hb.size)
        have HBn := hid (HB.out.trans (hb.mono HB.out.size))
        clear hs8 hb HB
        go_wp2_with fail
        refine (join16 B7 m d7 A8 b4 c8 wf QM.out.lie Q8.out.lie (by have := HML.out; omega) (by have := HN.out; omega)).mono ?_
        rintro e wg ⟨A9, c9, rfl, hs9, hb⟩
        have HB := hid (HW0.out.trans ((HBn.out.trans (hb.mono HBn.out.size)).mono HW0.out.size))
        have Q9 := hid hs9
        clear hs9 hb HBn
        go_wp2
        go_ret
        exact ⟨A9, c9, by rw [HA.out, List.length_append]; rfl, by rw [HA.out]; exact Q9.out, HB.out⟩
      · have h3i : ¬ (x.src : Int) = 3 := by omega
        rw [if_neg h3, List.append_nil] at HA
        go_wp2
        go_ret
        exact ⟨B7, d7, by rw [HA.out]; rfl, by rw [HA.out]; exact Q7.out, HW0.out.trans (HB.out.mono HW0.out.size)⟩
  · intro p1 v1 hb hq
    have HBn := hid (HB.out.trans (hb.mono HB.out.size))
    clear HB 
    have HB := HBn
    clear HBn 
    have Q1 := hid hq
    clear hb hq
    (try simp only [Act.put, List.getElem_toArray, List.getElem_cons_succ, List.getElem_cons_zero, List.setIfInBounds_toArray, List.set_cons_zero, List.set_cons_succ])
    refine wpGrA_q (i := 2) (b1) rfl (by kernel_rfl) (by rfl) (fun w' => by go_simp) (fun w' hb => (HV1.out w' (HB.out.trans (hb.mono HB.out.size)))) ?_
    intro B2 d2 v2 hb hq
    have Q1n := hid ((Q1.out.below hb).more hb.size)
    have HBn := hid (HB.out.trans (hb.mono HB.out.size))
    clear HB Q1
    have HB := HBn
    have Q1 := Q1n
    clear HBn Q1n
    have Q2 := hid hq
    clear hb hq
    (try simp only [Act.put, List.getElem_toArray, List.getElem_cons_succ, List.getElem_cons_zero, List.setIfInBounds_toArray, List.set_cons_zero, List.set_cons_succ])
    refine wpGrA_q (i := 5) (b2) rfl (by kernel_rfl) (by rfl) (fun w' => by go_simp) (fun w' hb => (HV2.out w' (HB.out.trans (hb.mono HB.out.size)))) ?_
    intro B3 d3 v3 hb hq
    have Q1n := hid ((Q1.out.below hb).more hb.size)
    have Q2n := hid ((Q2.out.below hb).more hb.size)
    have HBn := hid (HB.out.trans (hb.mono HB.out.size))
    clear HB Q1 Q2
    have HB := HBn
    have Q1 := Q1n
    have Q2 := Q2n
    clear HBn Q1n Q2n
    have Q3 := hid hq
    clear hb hq
    (try simp only [Act.put, List.getElem_toArray, List.getElem_cons_succ, List.getElem_cons_zero, List.setIfInBounds_toArray, List.set_cons_zero, List.set_cons_succ])
    refine wpGrA_q (i := 6) (b1 ++ b2) rfl (by kernel_rfl) (by rfl) (fun w' => by go_simp) (fun w' hb => (join16 B2 (b1) d2 B3 (b2) d3 w' ((Q2.out.below hb).more hb.size).lie ((Q3.out.below hb).more hb.size).lie (by have := HN.out; (try simp only [List.length_append, List.length_cons, List.length_nil]); omega) (by have := HN.out; (try simp only [List.length_append, List.length_cons, List.length_nil]); omega))) ?_
    intro B4 d4 v4 hb hq
    have Q1n := hid ((Q1.out.below hb).more hb.size)
    have Q2n := hid ((Q2.out.below hb).more hb.size)
    have Q3n := hid ((Q3.out.below hb).more hb.size)
    have HBn := hid (HB.out.trans (hb.mono HB.out.size))
    clear HB Q1 Q2 Q3
    have HB := HBn
    have Q1 := Q1n
    have Q2 := Q2n
    have Q3 := Q3n
    clear HBn Q1n Q2n Q3n
    have Q4 := hid hq
    clear hb hq
    (try simp only [Act.put, List.getElem_toArray, List.getElem_cons_succ, List.getElem_cons_zero, List.setIfInBounds_toArray, List.set_cons_zero, List.set_cons_succ])
    refine wpGrA_q (i := 9) (b3) rfl (by kernel_rfl) (by rfl) (fun w' => by go_simp) (fun w' hb => (HV3.out w' (HB.out.trans (hb.mono HB.out.size)))) ?_
    intro B5 d5 v5 hb hq
    have Q1n := hid ((Q1.out.below hb).more hb.size)
    have Q2n := hid ((Q2.out.below hb).more hb.size)
    have Q3n := hid ((Q3.out.below hb).more hb.size)
    have Q4n := hid ((Q4.out.below hb).more hb.size)
    have HBn := hid (HB.out.trans (hb.mono HB.out.size))
    clear HB Q1 Q2 Q3 Q4
    have HB := HBn
    have Q1 := Q1n
    have Q2 := Q2n
    have Q3 := Q3n
    have Q4 := Q4n
    clear HBn Q1n Q2n Q3n Q4n
    have Q5 := hid hq
    clear hb hq
    (try simp only [Act.put, List.getElem_toArray, List.getElem_cons_succ, List.getElem_cons_zero, List.setIfInBounds_toArray, List.set_cons_zero, List.set_cons_succ])
    refine wpGrA_end (by kernel_rfl) ?_
    intro wz hb
    have Q1n := hid ((Q1.out.below hb).more hb.size)
    have Q2n := hid ((Q2.out.below hb).more hb.size)
    have Q3n := hid ((Q3.out.below hb).more hb.size)
    have Q4n := hid ((Q4.out.below hb).more hb.size)
    have Q5n := hid ((Q5.out.below hb).more hb.size)
    have HBn := hid (HB.out.trans (hb.mono HB.out.size))
    clear HB Q1 Q2 Q3 Q4 Q5
    have HB := HBn
    have Q1 := Q1n
    have Q2 := Q2n
    have Q3 := Q3n
    have Q4 := Q4n
    have Q5 := Q5n
    clear HBn Q1n Q2n Q3n Q4n Q5n
    clear hb
    refine wpLA_here ?_
    refine wpLA_q (b3 ++ [sb]) (by rfl) (fun w' => by go_simp) (fun w' hb => (join16 B5 b3 d5 (some ⟨p1, 0, none⟩) [sb] 1 w' ((Q5.out.below hb).more hb.size).lie (by have h := ((Q1.out.below hb).more hb.size).lie; rw [HSB.out]; exact h) (by have := HN.out; (try simp only [List.length_append, List.length_cons, List.length_nil]); omega) (by have := HN.out; (try simp only [List.length_append, List.length_cons, List.length_nil]); omega))) ?_
    intro B6 d6 v6 hb hq
    have Q1n := hid ((Q1.out.below hb).more hb.size)
    have Q2n := hid ((Q2.out.below hb).more hb.size)
    have Q3n := hid ((Q3.out.below hb).more hb.size)
    have Q4n := hid ((Q4.out.below hb).more hb.size)
    have Q5n := hid ((Q5.out.below hb).more hb.size)
    have HBn := hid (HB.out.trans (hb.mono HB.out.size))
    clear HB Q1 Q2 Q3 Q4 Q5
    have HB := HBn
    have Q1 := Q1n
    have Q2 := Q2n
    have Q3 := Q3n
    have Q4 := Q4n
    have Q5 := Q5n
    clear HBn Q1n Q2n Q3n Q4n Q5n
    have Q6 := hid hq
    clear hb hq
    (try simp only [Act.put, List.getElem_toArray, List.getElem_cons_succ, List.getElem_cons_zero, List.setIfInBounds_toArray, List.set_cons_zero, List.set_cons_succ])
    refine wpLA_q ((b1 ++ b2) ++ (b3 ++ [sb])) (by rfl) (fun w' => by go_simp) (fun w' hb => (join16 B4 (b1 ++ b2) d4 B6 (b3 ++ [sb]) d6 w' ((Q4.out.below hb).more hb.size).lie ((Q6.out.below hb).more hb.size).lie (by have := HN.out; (try simp only [List.length_append, List.length_cons, List.length_nil]); omega) (by have := HN.out; (try simp only [List.length_append, List.length_cons, List.length_nil]); omega))) ?_
    intro B7 d7 v7 hb hq
    have Q1n := hid ((Q1.out.below hb).more hb.size)
    have Q2n := hid ((Q2.out.below hb).more hb.size)
    have Q3n := hid ((Q3.out.below hb).more hb.size)
    have Q4n := hid ((Q4.out.below hb).more hb.size)
    have Q5n := hid ((Q5.out.below hb).more hb.size)
    have Q6n := hid ((Q6.out.below hb).more hb.size)
    have HBn := hid (HB.out.trans (hb.mono HB.out.size))
    clear HB Q1 Q2 Q3 Q4 Q5 Q6
    have HB := HBn
    have Q1 := Q1n
    have Q2 := Q2n
    have Q3 := Q3n
    have Q4 := Q4n
    have Q5 := Q5n
    have Q6 := Q6n
    clear HBn Q1n Q2n Q3n Q4n Q5n Q6n
    have Q7 := hid hq
    clear hb hq
    (try simp only [Act.put, List.getElem_toArray, List.getElem_cons_succ, List.getElem_cons_zero, List.setIfInBounds_toArray, List.set_cons_zero, List.set_cons_succ])
    refine wpLA_take (.slice B7 ((b1 ++ b2) ++ (b3 ++ [sb])).length d7) (yG_val _ (by rfl) (fun w' _ => by (go_simp; try rfl))) ?_
    (try simp only [Act.put, List.getElem_toArray, List.getElem_cons_succ, List.getElem_cons_zero, List.setIfInBounds_toArray, List.set_cons_zero, List.set_cons_succ])
    refine wpLA_end ?_
    intro we hb
    have Q1n := hid ((Q1.out.below hb).more hb.size)
    have Q2n := hid ((Q2.out.below hb).more hb.size)
    have Q3n := hid ((Q3.out.below hb).more hb.size)
    have Q4n := hid ((Q4.out.below hb).more hb.size)
    have Q5n := hid ((Q5.out.below hb).more hb.size)
    have Q6n := hid ((Q6.out.below hb).more hb.size)
    have Q7n := hid ((Q7.out.below hb).more hb.size)
    have HBn := hid (HB.out.trans (hb.mono HB.out.size))
    clear HB Q1 Q2 Q3 Q4 Q5 Q6 Q7
    have HB := HBn
    have Q1 := Q1n
    have Q2 := Q2n
    have Q3 := Q3n
    have Q4 := Q4n
    have Q5 := Q5n
    have Q6 := Q6n
    have Q7 := Q7n
    clear HBn Q1n Q2n Q3n Q4n Q5n Q6n Q7n
    clear hb
    obtain ⟨m, hm⟩ : ∃ t, t = (b1 ++ b2) ++ (b3 ++ [sb]) := ⟨_, rfl⟩
    rw [← hm] at Q7 HA ⊢
    have HML : Hid (m.length ≤ 400000) := hid (by rw [hm]; have := HN.out; simp only [List.length_append, List.length_cons, List.length_nil]; omega)
    clear hm
    have K2 := (HB.out.block _ (block_lt K1.out)).trans K1.out
    have c3 := cell_of K2 3 _ rfl; have c4 := cell_of K2 4 _ rfl
    by_cases h3 : x.src = 3
    · have h3i : (x.src : Int) = 3 := by omega
      rw [if_pos h3] at HA
      go_wp2_with fail
      refine (HV4.out _ HB.out).mono ?_
      rintro e wf ⟨A8, c8, rfl, hs8, hb⟩
      have Q8 := hid hs8
      have QM := hid ((Q7.out.below hb).more hb.size)
      have HBn := hid (HB.out.trans (hb.mono HB.out.size))
      clear hs8 hb HB
      go_wp2_with fail
      refine (join16 B7 m d7 A8 b4 c8 wf QM.out.lie Q8.out.lie (by have := HML.out; omega) (by have := HN.out; omega)).mono ?_
      rintro e wg ⟨A9, c9, rfl, hs9, hb⟩
      have HB := hid (HW0.out.trans ((HBn.out.trans (hb.mono HBn.out.size)).mono HW0.out.size))
      have Q9 := hid hs9
      clear hs9 hb HBn
      go_wp2
      go_ret
      exact ⟨A9, c9, by rw [HA.out, List.length_append]; rfl, by rw [HA.out]; exact Q9.out, HB.out⟩
    · have h3i : ¬ (x.src : Int) = 3 := by omega
      rw [if_neg h3, List.append_nil] at HA
      go_wp2
      go_ret
      exact ⟨B7, d7, by rw [HA.out]; rfl, by rw [HA.out]; exact Q7.out, HW0.out.trans (HB.out.mono HW0.out.size)⟩
end Go.Proofs.Ytlgcdddgahjknaa
end
section
namespace Go.Proofs.Ytlgcdddgahjknaa
open Go Go.RowKit
set_option linter.unusedVariables false
set_option linter.unusedSimpArgs false
/-- A leaf's bytes. -/
def leafBy (x : Lf) : List UInt8 := aheadB x ++ vecBytes x.sig
theorem ahead_le {x : Lf} (h : Lf200 x) : (aheadB x).length ≤ 500000 := by
  have v1 := vec_le (xs := x.box) (by have := h.1; omega); have v2 := vec_le (xs := x.sign) (by have := h.2.1; omega); have v3 := vec_le (xs := x.ident) (by have := h.2.2.1; omega); have v4 := vec_le (xs := x.par) (by have := h.2.2.2.1; omega)
  unfold aheadB
  simp only [List.length_append, List.length_cons, List.length_nil]
  split
  · omega
  · simp only [List.length_nil]; omega
set_option maxRecDepth 100000 in
set_option maxHeartbeats 2000000 in
theorem LeafBytes16_any (x : Lf) (a : LA) (w : World) (hx : LfIn w x a) (hl : Lf200 x) : Calls Try.prog 14 #[.agg (lfV x a)] w (RetQ w (leafBy x)) := by
  have K1 := hid (heap_alloc_new w (.cells (lfV x a) LfT))
  obtain ⟨W, hW⟩ : ∃ W, W = w.alloc (.cells (lfV x a) LfT) := ⟨_, rfl⟩
  have HW0 : Hid (Below w.heap.size w W) := hid (by rw [hW]; exact (Below.refl _ _).alloc (Nat.le_refl _) _)
  have HX := hid (hx.on HW0.out)
  rw [← hW] at K1
  have HV1 : Hid (∀ V, Below W.heap.size W V → Calls Try.prog 35 #[.agg (lfV x a)] V (RetQ V (aheadB x))) := hid fun V h => Ahead16_any x a V (HX.out.on h) hl
  have HV2 : Hid (∀ V, Below W.heap.size W V → Calls Try.prog 36 #[.slice a.a4 x.sig.length a.c4] V (RetQ V (vecBytes x.sig))) := hid fun V h => VecQ _ _ _ V (by have := hl.2.2.2.2.1; omega) (lie_to HX.out.2.2.2.2 h)
  have v1 := ahead_le hl; have v2 := vec_le (xs := x.sig) (by have := hl.2.2.2.2.1; omega)
  have HA : Hid (leafBy x = aheadB x ++ vecBytes x.sig) := hid rfl
  obtain ⟨RR, hR⟩ : ∃ t, t = leafBy x := ⟨_, rfl⟩
  obtain ⟨b1, hb1⟩ : ∃ t, t = aheadB x := ⟨_, rfl⟩
  obtain ⟨b2, hb2⟩ : ∃ t, t = vecBytes x.sig := ⟨_, rfl⟩
  rw [← hR, ← hb1, ← hb2] at HA
  rw [← hb1] at HV1 v1
  rw [← hb2] at HV2 v2
  rw [← hR]
  have HN : Hid (b1.length ≤ 500000 ∧ b2.length ≤ 100004) := hid ⟨v1, v2⟩
  have HC : Hid (∀ w', Below W.heap.size W w' → w'.cell? ⟨w.heap.size, 5, none⟩ = some (.slice a.a4 x.sig.length a.c4)) := hid fun w' h => cell_of ((h.block _ (block_lt K1.out)).trans K1.out) 5 _ rfl
  clear hx hl hR hb1 hb2 v1 v2 HX
  go_enter Try.func14, Try.ntmps14
  go_upto_region 1 with fail
  have e : w.alloc (.cells #[.slice a.a0 x.box.length a.c0, .slice a.a1 x.sign.length a.c1, .slice a.a2 x.ident.length a.c2, .int .u8 (x.src : Int), .slice a.a3 x.par.length a.c3, .slice a.a4 x.sig.length a.c4] LfT) = W := hW.symm
  rw [e]
  clear e hW
  have HB : Hid (Below W.heap.size W W) := hid (Below.refl _ _)
  refine wp_region_grA 4 (by kernel_rfl) (by decide) ?_
  refine wpGrA_take (i := 0) (.agg (lfV x a)) rfl (by kernel_rfl) (by kernel_rfl) (fun _ _ _ h => h) (yG_part (by rfl) LfT (.tmp 1) rfl w.heap.size 0 rfl LfT (lfV x a) (lfV x a) (0, 0) _ K1.out rfl Try.underlying24 rfl infoLf) ?_
  (try simp only [Act.put, List.getElem_toArray, List.getElem_cons_succ, List.getElem_cons_zero, List.setIfInBounds_toArray, List.set_cons_zero, List.set_cons_succ])
  refine wpGrA_take (i := 2) (.pointer (some ⟨w.heap.size, 5, none⟩)) rfl (by kernel_rfl) (by kernel_rfl) (fun _ _ _ h => h) (yG_val _ (by rfl) (fun w' _ => by (go_simp; try rfl))) ?_
  (try simp only [Act.put, List.getElem_toArray, List.getElem_cons_succ, List.getElem_cons_zero, List.setIfInBounds_toArray, List.set_cons_zero, List.set_cons_succ])
  refine wpGrA_take (i := 3) (.slice a.a4 x.sig.length a.c4) rfl (by kernel_rfl) (by kernel_rfl) (fun _ _ _ h => h) (yG_val _ (by rfl) (fun w' hb => by have c := HC.out w' hb; (go_simp; try rfl))) ?_
  (try simp only [Act.put, List.getElem_toArray, List.getElem_cons_succ, List.getElem_cons_zero, List.setIfInBounds_toArray, List.set_cons_zero, List.set_cons_succ])
  refine wpGrA_q (i := 1) (b1) rfl (by kernel_rfl) (by rfl) (fun w' => by go_simp) (fun w' hb => (HV1.out w' (HB.out.trans (hb.mono HB.out.size)))) ?_
  intro B1 d1 v1 hb hq
  have HBn := hid (HB.out.trans (hb.mono HB.out.size))
  clear HB 
  have HB := HBn
  clear HBn 
  have Q1 := hid hq
  clear hb hq
  (try simp only [Act.put, List.getElem_toArray, List.getElem_cons_succ, List.getElem_cons_zero, List.setIfInBounds_toArray, List.set_cons_zero, List.set_cons_succ])
  refine wpGrA_end (by kernel_rfl) ?_
  intro wz hb
  have Q1n := hid ((Q1.out.below hb).more hb.size)
  have HBn := hid (HB.out.trans (hb.mono HB.out.size))
  clear HB Q1
  have HB := HBn
  have Q1 := Q1n
  clear HBn Q1n
  clear hb
  refine wpLA_here ?_
  refine wpLA_q (b2) (by rfl) (fun w' => by go_simp) (fun w' hb => (HV2.out w' (HB.out.trans (hb.mono HB.out.size)))) ?_
  intro B2 d2 v2 hb hq
  have Q1n := hid ((Q1.out.below hb).more hb.size)
  have HBn := hid (HB.out.trans (hb.mono HB.out.size))
  clear HB Q1
  have HB := HBn
  have Q1 := Q1n
  clear HBn Q1n
  have Q2 := hid hq
  clear hb hq
  (try simp only [Act.put, List.getElem_toArray, List.getElem_cons_succ, List.getElem_cons_zero, List.setIfInBounds_toArray, List.set_cons_zero, List.set_cons_succ])
  refine wpLA_q (b1 ++ b2) (by rfl) (fun w' => by go_simp) (fun w' hb => (join16 B1 (b1) d1 B2 (b2) d2 w' ((Q1.out.below hb).more hb.size).lie ((Q2.out.below hb).more hb.size).lie (by have := HN.out; (try simp only [List.length_append, List.length_cons, List.length_nil]); omega) (by have := HN.out; (try simp only [List.length_append, List.length_cons, List.length_nil]); omega))) ?_
  intro B3 d3 v3 hb hq
  have Q1n := hid ((Q1.out.below hb).more hb.size)
  have Q2n := hid ((Q2.out.below hb).more hb.size)
  have HBn := hid (HB.out.trans (hb.mono HB.out.size))
  clear HB Q1 Q2
  have HB := HBn
  have Q1 := Q1n
  have Q2 := Q2n
  clear HBn Q1n Q2n
  have Q3 := hid hq
  clear hb hq
  (try simp only [Act.put, List.getElem_toArray, List.getElem_cons_succ, List.getElem_cons_zero, List.setIfInBounds_toArray, List.set_cons_zero, List.set_cons_succ])
  refine wpLA_take (.slice B3 (b1 ++ b2).length d3) (yG_val _ (by rfl) (fun w' _ => by (go_simp; try rfl))) ?_
  (try simp only [Act.put, List.getElem_toArray, List.getElem_cons_succ, List.getElem_cons_zero, List.setIfInBounds_toArray, List.set_cons_zero, List.set_cons_succ])
  refine wpLA_end ?_
  intro we hb
  have Q1n := hid ((Q1.out.below hb).more hb.size)
  have Q2n := hid ((Q2.out.below hb).more hb.size)
  have Q3n := hid ((Q3.out.below hb).more hb.size)
  have HBn := hid (HB.out.trans (hb.mono HB.out.size))
  clear HB Q1 Q2 Q3
  have HB := HBn
  have Q1 := Q1n
  have Q2 := Q2n
  have Q3 := Q3n
  clear HBn Q1n Q2n Q3n
  clear hb
  go_wp2_with fail
  go_ret
  exact ⟨B3, d3, by rw [HA.out]; first | rfl | (rw [List.length_append]; rfl), by rw [HA.out]; exact Q3.out, HW0.out.trans (HB.out.mono HW0.out.size)⟩
/-- Numbers of four bytes. -/
def lateBy (l : List Int) : List UInt8 := l.flatMap fun v => beBytes 4 v.toNat
theorem lateBy_length (l : List Int) : (lateBy l).length = 4 * l.length := by
  induction l with
  | nil => rfl
  | cons v l ih => rw [lateBy, List.flatMap_cons, List.length_append]; rw [lateBy] at ih; rw [ih, beBytes_length, List.length_cons]; omega
theorem lateBy_step {l : List Int} {j : Nat} (h : j < l.length) : lateBy (l.take (j + 1)) = lateBy (l.take j) ++ beBytes 4 (l[j]).toNat := by
  rw [List.take_succ_eq_append_getElem h, lateBy, List.flatMap_append]
  simp [lateBy]
def nodeBy (k : Nat) (x : Lf) (u : Pnt) : List UInt8 := if k = 1 then [1] ++ leafBy x else if k = 2 then ([2] ++ vecBytes u.box) ++ (vecBytes u.hash ++ vecBytes (lateBy u.late)) else [0]
def Pr200 (u : Pnt) : Prop := u.box.length ≤ 200 ∧ u.hash.length ≤ 200 ∧ u.late.length ≤ 200
theorem leaf_le {x : Lf} (h : Lf200 x) : (leafBy x).length ≤ 700000 := by
  have h1 := ahead_le h
  have h2 := vec_le (xs := x.sig) (by have := h.2.2.2.2.1; omega)
  unfold leafBy
  rw [List.length_append]; omega
theorem built2 : Try.prog.builtSlice 5 1 [(0, .int .u8 2)] = some #[.int .u8 2] := by kernel_rfl
section
variable {P : Program} {ops : Array Oper} {Q : Exit → Act → World → Prop} {md : Region.Mode} {n : Nat} {a : Act} {w0 : World}
/-- The same where the slice stands ahead of the call. -/
theorem wpGrA_slice_bytes {g k : Nat} {l : List Oper} {i j : Nat} {oi oj : Oper} {listed : Array Bool} {fn : FuncId} {args : Array Value} (xs : List UInt8) (hi : ops[j]? = some oi) (hj : ops[i]? = some oj)
    (hrd : (Region.ready md ops listed == [i, j] && decide (i < n) && decide (j < n)) = true)
    (hw : Region.wanted oi (yielded ops a.tmps) = true) (hr : ∀ w', (execOp a.eval oi).run P w' = .ok (.enter fn args) w')
    (hc : ∀ w', Below w0.heap.size w0 w' → Calls P fn args w' (RetQ w' xs))
    (hwj : Region.wanted oj (yielded ops a.tmps) = true) (t e : TypeId) (len : Nat) (parts : Array (Nat × Operand)) (ho : oj.op = .buildSlice t len parts) (hu : P.underlying t = some (.slice e))
    (ls : List (Nat × Value)) (hl : (parts.toList.map fun (i, x) => (i, a.eval x)) = ls) (zs : List Value) (hf : P.builtSlice e len ls = some zs.toArray) (hn : zs.length ≤ len) (hm : len ≤ 9223372036854775807)
    (h1 : ∀ A c w2, Below w0.heap.size w0 w2 → Sq w2 w2.heap.size A c (bvs xs) → wpGrA P md ops Q n (GrL P md ops Q g n l) w2 k (listed.setIfInBounds j true) (a.put oi.dst (.slice A xs.length c)))
    (h2 : ∀ p w2, Below w0.heap.size w0 w2 → Sq w2 w2.heap.size (some ⟨p, 0, none⟩) len zs → wpGrA P md ops Q n (GrL P md ops Q g n l) w2 k (listed.setIfInBounds i true) (a.put oj.dst (.slice (some ⟨p, 0, none⟩) len len))) :
    wpGrA P md ops Q n (GrL P md ops Q g n l) w0 (k + 1) listed a := fun w hb => by
  simp only [Bool.and_eq_true, decide_eq_true_eq, beq_iff_eq] at hrd
  refine wpGr_ready hrd.1.1 (by simp) (by simp [hrd.1.2, hrd.2]) fun m hm2 => ?_
  simp only [List.mem_cons, List.not_mem_nil, or_false] at hm2
  rcases hm2 with rfl | rfl
  · refine wpOp_sliceTo1 hj hwj t e len parts ho hu zs.toArray (by rw [Array.toList_map, hl]; exact hf) ⟨(Below.refl _ _).alloc (Nat.le_refl _) _, fun w3 hw3 => ?_⟩
    refine h2 w.heap.size (w.alloc (.cells zs.toArray e)) (hb.alloc hb.size _) (.inr ⟨w.heap.size, 0, rfl, by simp, by simpa using hn, hm, fun j u hj => ?_⟩) w3 hw3
    rw [Nat.zero_add, cell_of_row _ _ j _ e (0, 0) (heap_alloc_new w _)]
    simpa using hj
  · unfold wpOp
    simp only [hi]
    rw [if_pos hw]
    refine .inl ?_
    unfold Oper.wp
    rw [hr w]
    refine (hc w hb).mono fun e w'' ⟨A, c, he, hs, hb2⟩ => ?_
    subst he
    exact ⟨hb2, fun w3 hw3 => h1 A c w'' (hb.trans (hb2.mono hb.size)) hs w3 hw3⟩
end
set_option maxRecDepth 100000 in
set_option maxHeartbeats 4000000 in
theorem Bytes16_any (k : Nat) (x : Lf) (a : LA) (u : Pnt) (p : PA) (w : World) (hx : LfIn w x a) (hu : PrIn w u p) (h1 : k = 1 → Lf200 x) (h2 : k = 2 → Pr200 u ∧ riseB u.late = true) :
    Calls Try.prog 16 #[.agg (ndV k x a u p)] w (RetQ w (nodeBy k x u)) := by
  have K1 := hid (heap_alloc_new w (.cells (ndV k x a u p) NdT))
  obtain ⟨W, hW⟩ : ∃ W, W = w.alloc (.cells (ndV k x a u p) NdT) := ⟨_, rfl⟩
  have HW0 : Hid (Below w.heap.size w W) := hid (by rw [hW]; exact (Below.refl _ _).alloc (Nat.le_refl _) _)
  have HX := hid (hx.on HW0.out); have HU := hid (hu.on HW0.out)
  rw [← hW] at K1
  have HC : Hid (∀ w', Below W.heap.size W w' → (w'.cell? ⟨w.heap.size, 0, none⟩ = some (.int .u8 (k : Int)) ∧ w'.cell? ⟨w.heap.size, 1, none⟩ = some (.slice a.a0 x.box.length a.c0) ∧ w'.cell? ⟨w.heap.size, 2, none⟩ = some (.slice a.a1 x.sign.length a.c1) ∧ w'.cell? ⟨w.heap.size, 3, none⟩ = some (.slice a.a2 x.ident.length a.c2) ∧ w'.cell? ⟨w.heap.size, 4, none⟩ = some (.int .u8 (x.src : Int)) ∧ w'.cell? ⟨w.heap.size, 5, none⟩ = some (.slice a.a3 x.par.length a.c3) ∧ w'.cell? ⟨w.heap.size, 6, none⟩ = some (.slice a.a4 x.sig.length a.c4) ∧ w'.cell? ⟨w.heap.size, 7, none⟩ = some (.slice p.a0 u.box.length p.c0) ∧ w'.cell? ⟨w.heap.size, 8, none⟩ = some (.slice p.a1 u.hash.length p.c1) ∧ w'.cell? ⟨w.heap.size, 9, none⟩ = some (.slice p.a2 u.late.length p.c2))) := hid fun w' h => by
    have K2 := (h.block _ (block_lt K1.out)).trans K1.out
    exact ⟨cell_of K2 0 _ rfl, cell_of K2 1 _ rfl, cell_of K2 2 _ rfl, cell_of K2 3 _ rfl, cell_of K2 4 _ rfl, cell_of K2 5 _ rfl, cell_of K2 6 _ rfl, cell_of K2 7 _ rfl, cell_of K2 8 _ rfl, cell_of K2 9 _ rfl⟩
  have HA : Hid (nodeBy k x u = if k = 1 then [1] ++ leafBy x else if k = 2 then ([2] ++ vecBytes u.box) ++ (vecBytes u.hash ++ vecBytes (lateBy u.late)) else [0]) := hid rfl
  obtain ⟨RR, hR⟩ : ∃ t, t = nodeBy k x u := ⟨_, rfl⟩
  rw [← hR] at HA ⊢
  have H1 := hid h1; have H2 := hid h2
  clear hx hu hR h1 h2
  go_enter Try.func16, Try.ntmps16
  go_upto_region 1 with fail
  have e : w.alloc (.cells #[.int .u8 (k : Int), .slice a.a0 x.box.length a.c0, .slice a.a1 x.sign.length a.c1, .slice a.a2 x.ident.length a.c2, .int .u8 (x.src : Int), .slice a.a3 x.par.length a.c3, .slice a.a4 x.sig.length a.c4, .slice p.a0 u.box.length p.c0, .slice p.a1 u.hash.length p.c1, .slice p.a2 u.late.length p.c2] NdT) = W := hW.symm
  rw [e]
  clear e hW
  have hcW := HC.out W (Below.refl _ _)
  obtain ⟨x0, x1, x2, x3, x4, x5, x6, x7, x8, x9⟩ := hcW
  by_cases hk1 : k = 1
  · subst hk1
    rw [if_pos rfl] at HA
    have hl := H1.out rfl
    have HV := hid (fun V (h : Below W.heap.size W V) => LeafBytes16_any x a V (HX.out.on h) hl)
    have HN := hid (leaf_le hl)
    obtain ⟨b, hb⟩ : ∃ t, t = leafBy x := ⟨_, rfl⟩
    rw [← hb] at HA HV HN
    have hBA : Below W.heap.size W (W.alloc (.cells #[.int .u8 1] 5)) := (Below.refl _ _).alloc (Nat.le_refl _) _
    have HBA := hid hBA
    obtain ⟨y0, y1, y2, y3, y4, y5, y6, y7, y8, y9⟩ := HC.out _ hBA
    clear hb hl H1 H2 hBA
    go_wp2_with fail
    refine (HV.out _ HBA.out).mono ?_
    rintro e w2 ⟨A2, c2, rfl, hs, hb⟩
    have Q2 := hid hs
    have QS : Hid (Sq w2 w2.heap.size (some ⟨W.heap.size, 0, none⟩) 1 [.int .u8 1]) := hid (((Lie.sq (c := 1) (by have h := Lie.new1 W (.int .u8 1) 5; exact h.more (by simp)) (by simp) (by decide)).below hb).more hb.size)
    have HB := hid (HBA.out.trans (hb.mono HBA.out.size))
    clear hs hb HV HBA y0 y1 y2 y3 y4 y5 y6 y7 y8 y9
    go_wp2_with fail
    refine (join16 (some ⟨W.heap.size, 0, none⟩) [1] 1 A2 b c2 w2 QS.out.lie Q2.out.lie (by decide) (by have := HN.out; omega)).mono ?_
    rintro e w3 ⟨A3, c3, rfl, hs, hb⟩
    have Q3 := hid hs
    have HB3 := hid (HB.out.trans (hb.mono HB.out.size))
    clear hs hb HB
    go_wp2
    go_ret
    exact ⟨A3, c3, by rw [HA.out, List.length_append, Nat.add_comm]; rfl, by rw [HA.out]; exact Q3.out, HW0.out.trans (HB3.out.mono HW0.out.size)⟩
  · have n1 : ¬ (k : Int) = 1 := by omega
    rw [if_neg hk1] at HA
    by_cases hk2 : k = 2
    · subst hk2
      rw [if_pos rfl] at HA
      obtain ⟨hl, hri⟩ := H2.out rfl
      have HV1 : Hid (∀ V, Below W.heap.size W V → Calls Try.prog 36 #[.slice p.a0 u.box.length p.c0] V (RetQ V (vecBytes u.box))) := hid fun V h => VecQ _ _ _ V (by have := hl.1; omega) (lie_to HU.out.1 h)
      have HV2 : Hid (∀ V, Below W.heap.size W V → Calls Try.prog 36 #[.slice p.a1 u.hash.length p.c1] V (RetQ V (vecBytes u.hash))) := hid fun V h => VecQ _ _ _ V (by have := hl.2.1; omega) (lie_to HU.out.2.1 h)
      have v1 := vec_le (xs := u.box) (by have := hl.1; omega); have v2 := vec_le (xs := u.hash) (by have := hl.2.1; omega)
      have hll := lateBy_length u.late
      have v3 := vec_le (xs := lateBy u.late) (by rw [hll]; have := hl.2.2; omega)
      have HLT : Hid (u.late.length ≤ 200) := hid hl.2.2
      have HRI : Hid (∀ j (h : j < u.late.length), ∃ n : Nat, u.late[j] = (n : Int) ∧ n ≤ 65535) := hid fun j h => by
        have h2 : badL u.late j = false := by
          have h3 := List.all_eq_true.1 hri j (List.mem_range.2 h)
          simpa using h3
        unfold badL at h2
        rw [getD_of h] at h2
        simp only [Bool.or_eq_false_iff, decide_eq_false_iff_not] at h2
        exact ⟨u.late[j].toNat, by omega, by omega⟩
      have HLL := hid hll
      obtain ⟨b1, hb1⟩ : ∃ t, t = vecBytes u.box := ⟨_, rfl⟩
      obtain ⟨b2, hb2⟩ : ∃ t, t = vecBytes u.hash := ⟨_, rfl⟩
      obtain ⟨bv, hbv⟩ : ∃ t, t = vecBytes (lateBy u.late) := ⟨_, rfl⟩
      rw [← hb1, ← hb2, ← hbv] at HA
      rw [← hb1] at HV1 v1
      rw [← hb2] at HV2 v2
      rw [← hbv] at v3
      have HN0 : Hid (b1.length ≤ 100004 ∧ b2.length ≤ 100004 ∧ bv.length ≤ 100004) := hid ⟨v1, v2, v3⟩
      have HBV := hid hbv
      clear hb1 hb2 hbv v1 v2 v3 hll hl hri H1 H2 hk1
      go_wp2
      go_loopg [3, 4] u.late.length (fun r acc i wr => ∃ (j : Nat) (A : Option Addr) (c : Nat), j + r = u.late.length ∧ acc = .slice A (lateBy (u.late.take j)).length c ∧ i = .int .i64 (j : Int) ∧ Sq wr wr.heap.size A c (bvs (lateBy (u.late.take j))) ∧ Below W.heap.size W wr)
      case atStart => exact ⟨0, none, 0, by omega, rfl, rfl, Sq.nil, Below.refl _ _⟩
      case round =>
        obtain ⟨j, AL, cL, hj, rfl, rfl, hq, hb⟩ := hrel
        have QL := hid hq; have HB := hid hb; have HJ := hid hj
        obtain ⟨y0, y1, y2, y3, y4, y5, y6, y7, y8, y9⟩ := HC.out _ hb
        clear hq hb x0 x1 x2 x3 x4 x5 x6 x7 x8 x9
        by_cases hlt : j < u.late.length
        · have hji : (j : Int) < (u.late.length : Int) := by omega
          have hj0 : (0 : Int) ≤ (j : Int) := by omega
          have hwj : wrap64 ((j : Int) + 1) = (j : Int) + 1 := wrap64_in (by omega) (by have := HLT.out; omega)
          obtain ⟨bb, oo, hAe, hbl, hc⟩ := (lie_to HU.out.2.2 HB.out).numZ hlt
          obtain ⟨n, hn, hn2⟩ := HRI.out j hlt
          have hst := lateBy_step hlt
          rw [hn] at hc hst
          rw [Int.toNat_natCast] at hst
          have HST := hid hst
          have hln : (lateBy (u.late.take j)).length ≤ 800 := by rw [lateBy_length, List.length_take]; have := HLT.out; omega
          obtain ⟨bl, hbl2⟩ : ∃ t, t = lateBy (u.late.take j) := ⟨_, rfl⟩
          rw [← hbl2] at QL HST hln ⊢
          have HLN := hid hln
          have hcv : (n : Int) % 18446744073709551616 = (n : Int) := by omega
          have HNB := hid (fun V => NumQ 4 n V (by decide) (by omega))
          have HNL := hid (beBytes_length 4 n)
          obtain ⟨nb, hnb⟩ : ∃ t, t = beBytes 4 n := ⟨_, rfl⟩
          rw [← hnb] at HNB HST HNL
          have HLTJ := hid hlt
          rw [hAe] at y9
          have hcc : wr.cell? ⟨bb, oo + j, none⟩ = some (.int .i64 (n : Int)) := hc
          clear hbl2 hnb hst hln hn hn2 hj hlt hAe hc
          go_wp2_with fail
          refine (HNB.out _).mono ?_
          rintro e w2 ⟨A2, c2, rfl, hs, hb⟩
          have Q2 := hid hs
          have QL2 := hid ((QL.out.below hb).more hb.size)
          have HB2 := hid (HB.out.trans (hb.mono HB.out.size))
          clear hs hb HB QL y0 y1 y2 y3 y4 y5 y6 y7 y8 y9 hcc
          go_wp2_with fail
          refine (join16 AL bl cL A2 nb c2 w2 QL2.out.lie Q2.out.lie (by have := HLN.out; omega) (by have := HNL.out; omega)).mono ?_
          rintro e w3 ⟨A3, c3, rfl, hs, hb⟩
          have Q3 := hid hs
          have HB3 := hid (HB2.out.trans (hb.mono HB2.out.size))
          clear hs hb HB2 QL2 Q2
          go_wp2
          have hj := HJ.out; have hlt := HLTJ.out
          go_roundg (u.late.length - (j + 1))
          case measure => clear hwj hcv; omega
          case rel => exact ⟨j + 1, A3, c3, by clear hwj hcv; omega, by rw [HST.out, List.length_append], by first | rfl | (rw [hwj]; rfl), by rw [HST.out]; exact Q3.out, HB3.out⟩
        · have hge : ¬ (j : Int) < (u.late.length : Int) := by omega
          have htk : u.late.take j = u.late := List.take_of_length_le (by omega)
          rw [htk] at QL ⊢
          obtain ⟨bl, hbl2⟩ : ∃ t, t = lateBy u.late := ⟨_, rfl⟩
          rw [← hbl2] at QL HBV HLL ⊢
          have HN : Hid (b1.length ≤ 100004 ∧ b2.length ≤ 100004 ∧ bv.length ≤ 100004 ∧ bl.length ≤ 800) := hid ⟨HN0.out.1, HN0.out.2.1, HN0.out.2.2, by have := HLL.out; have := HLT.out; omega⟩
          have hbv := HBV.out
          subst hbv
          clear hbl2 htk hj hlt
          go_upto_region 9 with fail
          refine wp_region_grA 11 (by kernel_rfl) (by decide) ?_
          refine wpGrA_take (i := 1) (.pointer (some ⟨w.heap.size, 7, none⟩)) rfl (by kernel_rfl) (by kernel_rfl) (fun _ _ _ h => h) (yG_val _ (by rfl) (fun w' _ => by (go_simp; try rfl))) ?_
          (try simp only [Act.put, List.getElem_toArray, List.getElem_cons_succ, List.getElem_cons_zero, List.setIfInBounds_toArray, List.set_cons_zero, List.set_cons_succ])
          refine wpGrA_take (i := 2) (.pointer (some ⟨w.heap.size, 7, none⟩)) rfl (by kernel_rfl) (by kernel_rfl) (fun _ _ _ h => h) (yG_val _ (by rfl) (fun w' _ => by (go_simp; try rfl))) ?_
          (try simp only [Act.put, List.getElem_toArray, List.getElem_cons_succ, List.getElem_cons_zero, List.setIfInBounds_toArray, List.set_cons_zero, List.set_cons_succ])
          refine wpGrA_take (i := 6) (.pointer (some ⟨w.heap.size, 7, none⟩)) rfl (by kernel_rfl) (by kernel_rfl) (fun _ _ _ h => h) (yG_val _ (by rfl) (fun w' _ => by (go_simp; try rfl))) ?_
          (try simp only [Act.put, List.getElem_toArray, List.getElem_cons_succ, List.getElem_cons_zero, List.setIfInBounds_toArray, List.set_cons_zero, List.set_cons_succ])
          refine wpGrA_take (i := 7) (.pointer (some ⟨w.heap.size, 8, none⟩)) rfl (by kernel_rfl) (by kernel_rfl) (fun _ _ _ h => h) (yG_val _ (by rfl) (fun w' _ => by (go_simp; try rfl))) ?_
          (try simp only [Act.put, List.getElem_toArray, List.getElem_cons_succ, List.getElem_cons_zero, List.setIfInBounds_toArray, List.set_cons_zero, List.set_cons_succ])
          refine wpGrA_take (i := 3) (.slice p.a0 u.box.length p.c0) rfl (by kernel_rfl) (by kernel_rfl) (fun _ _ _ h => h) (yG_val _ (by rfl) (fun w' hb => by have c := (HC.out w' (HB.out.trans (hb.mono HB.out.size))).2.2.2.2.2.2.2.1; (go_simp; try rfl))) ?_
          (try simp only [Act.put, List.getElem_toArray, List.getElem_cons_succ, List.getElem_cons_zero, List.setIfInBounds_toArray, List.set_cons_zero, List.set_cons_succ])
          refine wpGrA_take (i := 8) (.slice p.a1 u.hash.length p.c1) rfl (by kernel_rfl) (by kernel_rfl) (fun _ _ _ h => h) (yG_val _ (by rfl) (fun w' hb => by have c := (HC.out w' (HB.out.trans (hb.mono HB.out.size))).2.2.2.2.2.2.2.2.1; (go_simp; try rfl))) ?_
          (try simp only [Act.put, List.getElem_toArray, List.getElem_cons_succ, List.getElem_cons_zero, List.setIfInBounds_toArray, List.set_cons_zero, List.set_cons_succ])
          refine wpGrA_take (i := 10) (.slice AL bl.length cL) rfl (by kernel_rfl) (by kernel_rfl) (fun _ _ _ h => h) (yG_val _ (by rfl) (fun w' _ => by (go_simp; try rfl))) ?_
          (try simp only [Act.put, List.getElem_toArray, List.getElem_cons_succ, List.getElem_cons_zero, List.setIfInBounds_toArray, List.set_cons_zero, List.set_cons_succ])
          refine wpGrA_slice_bytes (i := 0) (j := 4) (b1) rfl rfl (by kernel_rfl) (by rfl) (fun w' => by go_simp) (fun w' hb => (HV1.out w' (HB.out.trans (hb.mono HB.out.size)))) (by rfl) _ _ 1 _ rfl Try.underlying22 [(0, .int .u8 2)] rfl ([.int .u8 2]) built2 (by simp) (by decide) ?_ ?_
          · intro B1 d1 v1 hb hq
            have QLn := hid ((QL.out.below hb).more hb.size)
            have HBn := hid (HB.out.trans (hb.mono HB.out.size))
            clear HB QL
            have HB := HBn
            have QL := QLn
            clear HBn QLn
            have Q1 := hid hq
            clear hb hq
            (try simp only [Act.put, List.getElem_toArray, List.getElem_cons_succ, List.getElem_cons_zero, List.setIfInBounds_toArray, List.set_cons_zero, List.set_cons_succ])
            refine wpGrA_slice1 (i := 0) rfl (by kernel_rfl) (by rfl) _ _ 1 _ rfl Try.underlying22 [(0, .int .u8 2)] rfl ([.int .u8 2]) built2 (by simp) (by decide) ?_
            intro p2 v2 hb hq
            have QLn := hid ((QL.out.below hb).more hb.size)
            have Q1n := hid ((Q1.out.below hb).more hb.size)
            have HBn := hid (HB.out.trans (hb.mono HB.out.size))
            clear HB QL Q1
            have HB := HBn
            have QL := QLn
            have Q1 := Q1n
            clear HBn QLn Q1n
            have Q2 := hid hq
            clear hb hq
            (try simp only [Act.put, List.getElem_toArray, List.getElem_cons_succ, List.getElem_cons_zero, List.setIfInBounds_toArray, List.set_cons_zero, List.set_cons_succ])
            refine wpGrA_q (i := 5) ([2] ++ b1) rfl (by kernel_rfl) (by rfl) (fun w' => by go_simp) (fun w' hb => (join16 (some ⟨p2, 0, none⟩) [2] 1 B1 b1 d1 w' ((Q2.out.below hb).more hb.size).lie ((Q1.out.below hb).more hb.size).lie (by decide) (by have := HN.out; (try simp only [List.length_append, List.length_cons, List.length_nil]); omega))) ?_
            intro B3 d3 v3 hb hq
            have QLn := hid ((QL.out.below hb).more hb.size)
            have Q1n := hid ((Q1.out.below hb).more hb.size)
            have Q2n := hid ((Q2.out.below hb).more hb.size)
            have HBn := hid (HB.out.trans (hb.mono HB.out.size))
            clear HB QL Q1 Q2
            have HB := HBn
            have QL := QLn
            have Q1 := Q1n
            have Q2 := Q2n
            clear HBn QLn Q1n Q2n
            have Q3 := hid hq
            clear hb hq
            (try simp only [Act.put, List.getElem_toArray, List.getElem_cons_succ, List.getElem_cons_zero, List.setIfInBounds_toArray, List.set_cons_zero, List.set_cons_succ])
            refine wpGrA_q (i := 9) (b2) rfl (by kernel_rfl) (by rfl) (fun w' => by go_simp) (fun w' hb => (HV2.out w' (HB.out.trans (hb.mono HB.out.size)))) ?_
            intro B4 d4 v4 hb hq
            have QLn := hid ((QL.out.below hb).more hb.size)
            have Q1n := hid ((Q1.out.below hb).more hb.size)
            have Q2n := hid ((Q2.out.below hb).more hb.size)
            have Q3n := hid ((Q3.out.below hb).more hb.size)
            have HBn := hid (HB.out.trans (hb.mono HB.out.size))
            clear HB QL Q1 Q2 Q3
            have HB := HBn
            have QL := QLn
            have Q1 := Q1n
            have Q2 := Q2n
            have Q3 := Q3n
            clear HBn QLn Q1n Q2n Q3n
            have Q4 := hid hq
            clear hb hq
            (try simp only [Act.put, List.getElem_toArray, List.getElem_cons_succ, List.getElem_cons_zero, List.setIfInBounds_toArray, List.set_cons_zero, List.set_cons_succ])
            refine wpGrA_end (by kernel_rfl) ?_
            intro wz hb
            have QLn := hid ((QL.out.below hb).more hb.size)
            have Q1n := hid ((Q1.out.below hb).more hb.size)
            have Q2n := hid ((Q2.out.below hb).more hb.size)
            have Q3n := hid ((Q3.out.below hb).more hb.size)
            have Q4n := hid ((Q4.out.below hb).more hb.size)
            have HBn := hid (HB.out.trans (hb.mono HB.out.size))
            clear HB QL Q1 Q2 Q3 Q4
            have HB := HBn
            have QL := QLn
            have Q1 := Q1n
            have Q2 := Q2n
            have Q3 := Q3n
            have Q4 := Q4n
            clear HBn QLn Q1n Q2n Q3n Q4n
            clear hb
            refine wpLA_here ?_
            refine wpLA_q (vecBytes bl) (by rfl) (fun w' => by go_simp) (fun w' hb => (VecQ AL bl cL w' (by have := HN.out; omega) ((QL.out.below hb).more hb.size).lie)) ?_
            intro B5 d5 v5 hb hq
            have QLn := hid ((QL.out.below hb).more hb.size)
            have Q1n := hid ((Q1.out.below hb).more hb.size)
            have Q2n := hid ((Q2.out.below hb).more hb.size)
            have Q3n := hid ((Q3.out.below hb).more hb.size)
            have Q4n := hid ((Q4.out.below hb).more hb.size)
            have HBn := hid (HB.out.trans (hb.mono HB.out.size))
            clear HB QL Q1 Q2 Q3 Q4
            have HB := HBn
            have QL := QLn
            have Q1 := Q1n
            have Q2 := Q2n
            have Q3 := Q3n
            have Q4 := Q4n
            clear HBn QLn Q1n Q2n Q3n Q4n
            have Q5 := hid hq
            clear hb hq
            (try simp only [Act.put, List.getElem_toArray, List.getElem_cons_succ, List.getElem_cons_zero, List.setIfInBounds_toArray, List.set_cons_zero, List.set_cons_succ])
            refine wpLA_q (b2 ++ vecBytes bl) (by rfl) (fun w' => by go_simp) (fun w' hb => (join16 B4 (b2) d4 B5 (vecBytes bl) d5 w' ((Q4.out.below hb).more hb.size).lie ((Q5.out.below hb).more hb.size).lie (by have := HN.out; (try simp only [List.length_append, List.length_cons, List.length_nil]); omega) (by have := HN.out; (try simp only [List.length_append, List.length_cons, List.length_nil]); omega))) ?_
            intro B6 d6 v6 hb hq
            have QLn := hid ((QL.out.below hb).more hb.size)
            have Q1n := hid ((Q1.out.below hb).more hb.size)
            have Q2n := hid ((Q2.out.below hb).more hb.size)
            have Q3n := hid ((Q3.out.below hb).more hb.size)
            have Q4n := hid ((Q4.out.below hb).more hb.size)
            have Q5n := hid ((Q5.out.below hb).more hb.size)
            have HBn := hid (HB.out.trans (hb.mono HB.out.size))
            clear HB QL Q1 Q2 Q3 Q4 Q5
            have HB := HBn
            have QL := QLn
            have Q1 := Q1n
            have Q2 := Q2n
            have Q3 := Q3n
            have Q4 := Q4n
            have Q5 := Q5n
            clear HBn QLn Q1n Q2n Q3n Q4n Q5n
            have Q6 := hid hq
            clear hb hq
            (try simp only [Act.put, List.getElem_toArray, List.getElem_cons_succ, List.getElem_cons_zero, List.setIfInBounds_toArray, List.set_cons_zero, List.set_cons_succ])
            refine wpLA_q (([2] ++ b1) ++ (b2 ++ vecBytes bl)) (by rfl) (fun w' => by go_simp) (fun w' hb => (join16 B3 ([2] ++ b1) d3 B6 (b2 ++ vecBytes bl) d6 w' ((Q3.out.below hb).more hb.size).lie ((Q6.out.below hb).more hb.size).lie (by have := HN.out; (try simp only [List.length_append, List.length_cons, List.length_nil]); omega) (by have := HN.out; (try simp only [List.length_append, List.length_cons, List.length_nil]); omega))) ?_
            intro B7 d7 v7 hb hq
            have QLn := hid ((QL.out.below hb).more hb.size)
            have Q1n := hid ((Q1.out.below hb).more hb.size)
            have Q2n := hid ((Q2.out.below hb).more hb.size)
            have Q3n := hid ((Q3.out.below hb).more hb.size)
            have Q4n := hid ((Q4.out.below hb).more hb.size)
            have Q5n := hid ((Q5.out.below hb).more hb.size)
            have Q6n := hid ((Q6.out.below hb).more hb.size)
            have HBn := hid (HB.out.trans (hb.mono HB.out.size))
            clear HB QL Q1 Q2 Q3 Q4 Q5 Q6
            have HB := HBn
            have QL := QLn
            have Q1 := Q1n
            have Q2 := Q2n
            have Q3 := Q3n
            have Q4 := Q4n
            have Q5 := Q5n
            have Q6 := Q6n
            clear HBn QLn Q1n Q2n Q3n Q4n Q5n Q6n
            have Q7 := hid hq
            clear hb hq
            (try simp only [Act.put, List.getElem_toArray, List.getElem_cons_succ, List.getElem_cons_zero, List.setIfInBounds_toArray, List.set_cons_zero, List.set_cons_succ])
            refine wpLA_take (.slice B7 (([2] ++ b1) ++ (b2 ++ vecBytes bl)).length d7) (yG_val _ (by rfl) (fun w' _ => by (go_simp; try rfl))) ?_
            (try simp only [Act.put, List.getElem_toArray, List.getElem_cons_succ, List.getElem_cons_zero, List.setIfInBounds_toArray, List.set_cons_zero, List.set_cons_succ])
            refine wpLA_end ?_
            intro we hb
            have QLn := hid ((QL.out.below hb).more hb.size)
            have Q1n := hid ((Q1.out.below hb).more hb.size)
            have Q2n := hid ((Q2.out.below hb).more hb.size)
            have Q3n := hid ((Q3.out.below hb).more hb.size)
            have Q4n := hid ((Q4.out.below hb).more hb.size)
            have Q5n := hid ((Q5.out.below hb).more hb.size)
            have Q6n := hid ((Q6.out.below hb).more hb.size)
            have Q7n := hid ((Q7.out.below hb).more hb.size)
            have HBn := hid (HB.out.trans (hb.mono HB.out.size))
            clear HB QL Q1 Q2 Q3 Q4 Q5 Q6 Q7
            have HB := HBn
            have QL := QLn
            have Q1 := Q1n
            have Q2 := Q2n
            have Q3 := Q3n
            have Q4 := Q4n
            have Q5 := Q5n
            have Q6 := Q6n
            have Q7 := Q7n
            clear HBn QLn Q1n Q2n Q3n Q4n Q5n Q6n Q7n
            clear hb
            have hlen : (([2] ++ b1) ++ (b2 ++ vecBytes bl)).length = b1.length + (b2.length + (vecBytes bl).length) + 1 := by simp
            go_wp2_with fail
            go_ret
            exact ⟨B7, d7, by rw [HA.out, hlen]; rfl, by rw [HA.out]; exact Q7.out, HW0.out.trans (HB.out.mono HW0.out.size)⟩
          · intro p1 v1 hb hq
            have QLn := hid ((QL.out.below hb).more hb.size)
            have HBn := hid (HB.out.trans (hb.mono HB.out.size))
            clear HB QL
            have HB := HBn
            have QL := QLn
            clear HBn QLn
            have Q1 := hid hq
            clear hb hq
            (try simp only [Act.put, List.getElem_toArray, List.getElem_cons_succ, List.getElem_cons_zero, List.setIfInBounds_toArray, List.set_cons_zero, List.set_cons_succ])
            refine wpGrA_q (i := 4) (b1) rfl (by kernel_rfl) (by rfl) (fun w' => by go_simp) (fun w' hb => (HV1.out w' (HB.out.trans (hb.mono HB.out.size)))) ?_
            intro B2 d2 v2 hb hq
            have QLn := hid ((QL.out.below hb).more hb.size)
            have Q1n := hid ((Q1.out.below hb).more hb.size)
            have HBn := hid (HB.out.trans (hb.mono HB.out.size))
            clear HB QL Q1
            have HB := HBn
            have QL := QLn
            have Q1 := Q1n
            clear HBn QLn Q1n
            have Q2 := hid hq
            clear hb hq
            (try simp only [Act.put, List.getElem_toArray, List.getElem_cons_succ, List.getElem_cons_zero, List.setIfInBounds_toArray, List.set_cons_zero, List.set_cons_succ])
            refine wpGrA_q (i := 5) ([2] ++ b1) rfl (by kernel_rfl) (by rfl) (fun w' => by go_simp) (fun w' hb => (join16 (some ⟨p1, 0, none⟩) [2] 1 B2 b1 d2 w' ((Q1.out.below hb).more hb.size).lie ((Q2.out.below hb).more hb.size).lie (by decide) (by have := HN.out; (try simp only [List.length_append, List.length_cons, List.length_nil]); omega))) ?_
            intro B3 d3 v3 hb hq
            have QLn := hid ((QL.out.below hb).more hb.size)
            have Q1n := hid ((Q1.out.below hb).more hb.size)
            have Q2n := hid ((Q2.out.below hb).more hb.size)
            have HBn := hid (HB.out.trans (hb.mono HB.out.size))
            clear HB QL Q1 Q2
            have HB := HBn
            have QL := QLn
            have Q1 := Q1n
            have Q2 := Q2n
            clear HBn QLn Q1n Q2n
            have Q3 := hid hq
            clear hb hq
            (try simp only [Act.put, List.getElem_toArray, List.getElem_cons_succ, List.getElem_cons_zero, List.setIfInBounds_toArray, List.set_cons_zero, List.set_cons_succ])
            refine wpGrA_q (i := 9) (b2) rfl (by kernel_rfl) (by rfl) (fun w' => by go_simp) (fun w' hb => (HV2.out w' (HB.out.trans (hb.mono HB.out.size)))) ?_
            intro B4 d4 v4 hb hq
            have QLn := hid ((QL.out.below hb).more hb.size)
            have Q1n := hid ((Q1.out.below hb).more hb.size)
            have Q2n := hid ((Q2.out.below hb).more hb.size)
            have Q3n := hid ((Q3.out.below hb).more hb.size)
            have HBn := hid (HB.out.trans (hb.mono HB.out.size))
            clear HB QL Q1 Q2 Q3
            have HB := HBn
            have QL := QLn
            have Q1 := Q1n
            have Q2 := Q2n
            have Q3 := Q3n
            clear HBn QLn Q1n Q2n Q3n
            have Q4 := hid hq
            clear hb hq
            (try simp only [Act.put, List.getElem_toArray, List.getElem_cons_succ, List.getElem_cons_zero, List.setIfInBounds_toArray, List.set_cons_zero, List.set_cons_succ])
            refine wpGrA_end (by kernel_rfl) ?_
            intro wz hb
            have QLn := hid ((QL.out.below hb).more hb.size)
            have Q1n := hid ((Q1.out.below hb).more hb.size)
            have Q2n := hid ((Q2.out.below hb).more hb.size)
            have Q3n := hid ((Q3.out.below hb).more hb.size)
            have Q4n := hid ((Q4.out.below hb).more hb.size)
            have HBn := hid (HB.out.trans (hb.mono HB.out.size))
            clear HB QL Q1 Q2 Q3 Q4
            have HB := HBn
            have QL := QLn
            have Q1 := Q1n
            have Q2 := Q2n
            have Q3 := Q3n
            have Q4 := Q4n
            clear HBn QLn Q1n Q2n Q3n Q4n
            clear hb
            refine wpLA_here ?_
            refine wpLA_q (vecBytes bl) (by rfl) (fun w' => by go_simp) (fun w' hb => (VecQ AL bl cL w' (by have := HN.out; omega) ((QL.out.below hb).more hb.size).lie)) ?_
            intro B5 d5 v5 hb hq
            have QLn := hid ((QL.out.below hb).more hb.size)
            have Q1n := hid ((Q1.out.below hb).more hb.size)
            have Q2n := hid ((Q2.out.below hb).more hb.size)
            have Q3n := hid ((Q3.out.below hb).more hb.size)
            have Q4n := hid ((Q4.out.below hb).more hb.size)
            have HBn := hid (HB.out.trans (hb.mono HB.out.size))
            clear HB QL Q1 Q2 Q3 Q4
            have HB := HBn
            have QL := QLn
            have Q1 := Q1n
            have Q2 := Q2n
            have Q3 := Q3n
            have Q4 := Q4n
            clear HBn QLn Q1n Q2n Q3n Q4n
            have Q5 := hid hq
            clear hb hq
            (try simp only [Act.put, List.getElem_toArray, List.getElem_cons_succ, List.getElem_cons_zero, List.setIfInBounds_toArray, List.set_cons_zero, List.set_cons_succ])
            refine wpLA_q (b2 ++ vecBytes bl) (by rfl) (fun w' => by go_simp) (fun w' hb => (join16 B4 (b2) d4 B5 (vecBytes bl) d5 w' ((Q4.out.below hb).more hb.size).lie ((Q5.out.below hb).more hb.size).lie (by have := HN.out; (try simp only [List.length_append, List.length_cons, List.length_nil]); omega) (by have := HN.out; (try simp only [List.length_append, List.length_cons, List.length_nil]); omega))) ?_
            intro B6 d6 v6 hb hq
            have QLn := hid ((QL.out.below hb).more hb.size)
            have Q1n := hid ((Q1.out.below hb).more hb.size)
            have Q2n := hid ((Q2.out.below hb).more hb.size)
            have Q3n := hid ((Q3.out.below hb).more hb.size)
            have Q4n := hid ((Q4.out.below hb).more hb.size)
            have Q5n := hid ((Q5.out.below hb).more hb.size)
            have HBn := hid (HB.out.trans (hb.mono HB.out.size))
            clear HB QL Q1 Q2 Q3 Q4 Q5
            have HB := HBn
            have QL := QLn
            have Q1 := Q1n
            have Q2 := Q2n
            have Q3 := Q3n
            have Q4 := Q4n
            have Q5 := Q5n
            clear HBn QLn Q1n Q2n Q3n Q4n Q5n
            have Q6 := hid hq
            clear hb hq
            (try simp only [Act.put, List.getElem_toArray, List.getElem_cons_succ, List.getElem_cons_zero, List.setIfInBounds_toArray, List.set_cons_zero, List.set_cons_succ])
            refine wpLA_q (([2] ++ b1) ++ (b2 ++ vecBytes bl)) (by rfl) (fun w' => by go_simp) (fun w' hb => (join16 B3 ([2] ++ b1) d3 B6 (b2 ++ vecBytes bl) d6 w' ((Q3.out.below hb).more hb.size).lie ((Q6.out.below hb).more hb.size).lie (by have := HN.out; (try simp only [List.length_append, List.length_cons, List.length_nil]); omega) (by have := HN.out; (try simp only [List.length_append, List.length_cons, List.length_nil]); omega))) ?_
            intro B7 d7 v7 hb hq
            have QLn := hid ((QL.out.below hb).more hb.size)
            have Q1n := hid ((Q1.out.below hb).more hb.size)
            have Q2n := hid ((Q2.out.below hb).more hb.size)
            have Q3n := hid ((Q3.out.below hb).more hb.size)
            have Q4n := hid ((Q4.out.below hb).more hb.size)
            have Q5n := hid ((Q5.out.below hb).more hb.size)
            have Q6n := hid ((Q6.out.below hb).more hb.size)
            have HBn := hid (HB.out.trans (hb.mono HB.out.size))
            clear HB QL Q1 Q2 Q3 Q4 Q5 Q6
            have HB := HBn
            have QL := QLn
            have Q1 := Q1n
            have Q2 := Q2n
            have Q3 := Q3n
            have Q4 := Q4n
            have Q5 := Q5n
            have Q6 := Q6n
            clear HBn QLn Q1n Q2n Q3n Q4n Q5n Q6n
            have Q7 := hid hq
            clear hb hq
            (try simp only [Act.put, List.getElem_toArray, List.getElem_cons_succ, List.getElem_cons_zero, List.setIfInBounds_toArray, List.set_cons_zero, List.set_cons_succ])
            refine wpLA_take (.slice B7 (([2] ++ b1) ++ (b2 ++ vecBytes bl)).length d7) (yG_val _ (by rfl) (fun w' _ => by (go_simp; try rfl))) ?_
            (try simp only [Act.put, List.getElem_toArray, List.getElem_cons_succ, List.getElem_cons_zero, List.setIfInBounds_toArray, List.set_cons_zero, List.set_cons_succ])
            refine wpLA_end ?_
            intro we hb
            have QLn := hid ((QL.out.below hb).more hb.size)
            have Q1n := hid ((Q1.out.below hb).more hb.size)
            have Q2n := hid ((Q2.out.below hb).more hb.size)
            have Q3n := hid ((Q3.out.below hb).more hb.size)
            have Q4n := hid ((Q4.out.below hb).more hb.size)
            have Q5n := hid ((Q5.out.below hb).more hb.size)
            have Q6n := hid ((Q6.out.below hb).more hb.size)
            have Q7n := hid ((Q7.out.below hb).more hb.size)
            have HBn := hid (HB.out.trans (hb.mono HB.out.size))
            clear HB QL Q1 Q2 Q3 Q4 Q5 Q6 Q7
            have HB := HBn
            have QL := QLn
            have Q1 := Q1n
            have Q2 := Q2n
            have Q3 := Q3n
            have Q4 := Q4n
            have Q5 := Q5n
            have Q6 := Q6n
            have Q7 := Q7n
            clear HBn QLn Q1n Q2n Q3n Q4n Q5n Q6n Q7n
            clear hb
            have hlen : (([2] ++ b1) ++ (b2 ++ vecBytes bl)).length = b1.length + (b2.length + (vecBytes bl).length) + 1 := by simp
            go_wp2_with fail
            go_ret
            exact ⟨B7, d7, by rw [HA.out, hlen]; rfl, by rw [HA.out]; exact Q7.out, HW0.out.trans (HB.out.mono HW0.out.size)⟩
    · have n2 : ¬ (k : Int) = 2 := by omega
      rw [if_neg hk2] at HA
      clear hk1 hk2 H1 H2
      go_wp2
      go_ret
      refine ⟨some ⟨W.heap.size, 0, none⟩, 1, by rw [HA.out]; rfl, ?_, HW0.out.trans (((Below.refl W.heap.size W).alloc (Nat.le_refl _) _).mono HW0.out.size)⟩
      rw [HA.out]
      have h := Lie.new1 W (.int .u8 0) 5
      exact Lie.sq (h.more (by simp)) (by simp) (by decide)
end Go.Proofs.Ytlgcdddgahjknaa
end
