/-
  The statement ScalarExact: the walk.
-/
import Derived.Test.YtacikkhhacladaaLaw08a
import Derived.Test.YtacikkhhacladaaSymB
import Derived.Test.YtacikkhhacladaaScG
namespace Go.Proofs.Ytacikkhhacladaa
open Go Go.RowKit
set_option linter.unusedVariables false
set_option linter.unusedSimpArgs false

theorem exN_lt (xs : List UInt8) : exN xs < ordL := by
  unfold exN exB
  split
  · rename_i h; exact (of_decide_eq_true h).2
  · exact ordL_pos
set_option maxRecDepth 100000 in
set_option maxHeartbeats 4000000 in
theorem exact8_any (A : Option Addr) (xs : List UInt8) (c : Nat) (w : World) (hS : Sq w w.heap.size A c (bvs xs)) :
    Calls Try.prog 4 #[.slice A xs.length c] w fun e w' => e = .returned (.bool true) ∧ Below w.heap.size w w' := by
  have HS := hid hS
  have HAL := hid alive8_any
  clear hS
  by_cases hx : 100 < xs.length
  · have hxi : (100 : Int) < (xs.length : Int) := by omega
    clear hx
    go_enter Try.func4, Try.ntmps4
    go_wp2_with fail
    refine (HAL.out _).mono ?_
    rintro e w1 ⟨rfl, hb1⟩
    go_wp2
    go_ret
    exact ⟨rfl, hb1⟩
  have hxi : ¬ (100 : Int) < (xs.length : Int) := by omega
  have KE := hid (fun W h => ScExact_e A xs c W h (by omega))
  have KO := scOf xs (by omega)
  have KN := hid (fun A' c' W h => Of6_any A' xs c' W h (by omega))
  have KD := hid (fun A c A' c' W h h' => Less_any (leN xs) ordL A A' c c' W.heap.size W.heap.size W h h' (Nat.le_trans ((dg_length_le (leN xs) 600).2 (by have h := leN_dig7 xs 0 (by omega); rwa [List.drop_zero] at h)) (by decide)))
  obtain ⟨s, hs⟩ : ∃ s : SF, s = ⟨exN xs, exN_lt xs⟩ := ⟨_, rfl⟩
  have hsv : exN xs = s.val := by rw [hs]
  rw [hsv] at KE
  have KZ := scSame s 0
  rw [← zS_sF] at KZ
  have KB := scBytes s
  obtain ⟨n, hn⟩ : ∃ n, n = leN xs := ⟨_, rfl⟩
  by_cases h32 : xs.length = 32
  · have hl32 : ((xs.length : Int) == 32) = true := by rw [h32]; rfl
    by_cases hlt : leN xs < ordL
    · have hb : exB xs = true := decide_eq_true ⟨h32, hlt⟩
      have hv : s.val = leN xs := by rw [hs]; show exN xs = _; unfold exN; rw [hb]; rfl
      have hbs : leB 32 s.val = xs := by rw [hv, ← h32]; exact leB_leN xs
      have hos : ofS xs = s := by rw [← hbs]; exact ofS_bytes s
      rw [hb] at KE
      rw [hbs] at KB
      rw [hos] at KO
      rw [decide_eq_true hlt, ← hn] at KD
      rw [← hn] at KN
      have KT := scSameT (rfl : s = s)
      have KSM : Hid (∀ (A1 A2 : Option Addr) (c1 c2 : Nat) (W : World), Sq W W.heap.size A1 c1 (bvs xs) → Sq W W.heap.size A2 c2 (bvs xs) → Calls Try.prog 27 #[.slice A1 xs.length c1, .slice A2 xs.length c2] W fun e w' => e = .returned (.bool true) ∧ Below W.heap.size W w') := hid fun A1 A2 c1 c2 W h h' => by
        have := calls_drew (Same_any A1 xs c1 A2 xs c2 W _ _ h.lie h'.lie (by omega))
        rwa [beq_self_eq_true] at this
      clear hn hs hsv hb hv hbs hos hlt h32 hx KZ
      go_enter Try.func4, Try.ntmps4
      go_wp2_with fail
      refine (HAL.out _).mono ?_
      rintro e w0 ⟨rfl, hb⟩
      have S0 : Hid (St w w0 [] []) := hid ((St.start w).on hb)
      clear hb
      go_upto_region 5 with fail
      refine wpLA_start ?_
      refine wpLA_take (.slice A (xs.length) c) (yG_val _ (by rfl) (fun w' _ => by (go_simp; try rfl))) ?_
      (try simp only [Act.put, List.getElem_toArray, List.getElem_cons_succ, List.getElem_cons_zero, List.setIfInBounds_toArray, List.set_cons_zero, List.set_cons_succ])
      refine wpLA_take (.tuple #[(.agg (sF s)), (.bool true)]) (yG_call (by rfl) (fun w' => by go_simp) (fun w' hb => KE.out w' (HS.out.on6 ((S0.out.on hb).below)))) ?_
      (try simp only [Act.put, List.getElem_toArray, List.getElem_cons_succ, List.getElem_cons_zero, List.setIfInBounds_toArray, List.set_cons_zero, List.set_cons_succ])
      refine wpLA_take (.tuple #[(.agg (sF s)), (.bool true)]) (yG_val _ (by rfl) (fun w' _ => by (go_simp; try rfl))) ?_
      (try simp only [Act.put, List.getElem_toArray, List.getElem_cons_succ, List.getElem_cons_zero, List.setIfInBounds_toArray, List.set_cons_zero, List.set_cons_succ])
      refine wpLA_take (.agg (sF s)) (yG_val _ (by rfl) (fun w' _ => by (go_simp; try rfl))) ?_
      (try simp only [Act.put, List.getElem_toArray, List.getElem_cons_succ, List.getElem_cons_zero, List.setIfInBounds_toArray, List.set_cons_zero, List.set_cons_succ])
      refine wpLA_take (.bool true) (yG_val _ (by rfl) (fun w' _ => by (go_simp; try rfl))) ?_
      (try simp only [Act.put, List.getElem_toArray, List.getElem_cons_succ, List.getElem_cons_zero, List.setIfInBounds_toArray, List.set_cons_zero, List.set_cons_succ])
      refine wpLA_alloc (by rfl) rfl zeroS ?_
      intro p1 w1 hp hz hb
      have S1 : Hid (St w w1 [(p1, zS, ST)] []) := hid (S0.out.alloc hb hp hz)
      clear hp hz hb S0
      (try simp only [Act.put, List.getElem_toArray, List.getElem_cons_succ, List.getElem_cons_zero, List.setIfInBounds_toArray, List.set_cons_zero, List.set_cons_succ])
      refine wpLA_store rfl ST (.tmp 3) (.tmp 15) rfl p1 (sF s) rfl rfl ST (zS) S1.out.cl.1 (infoSF _) rfl (oneSF _) ?_
      intro wx hb
      have S2 : Hid (St w (wx.setRow p1 (sF s)) [(p1, sF s, ST)] []) := hid ((S1.out.on hb).put0 0 rfl)
      clear hb S1
      generalize wx.setRow p1 (sF s) = w2 at S2 ⊢
      (try simp only [Act.put, List.getElem_toArray, List.getElem_cons_succ, List.getElem_cons_zero, List.setIfInBounds_toArray, List.set_cons_zero, List.set_cons_succ])
      refine wpLA_take (.bool true) (yG_val _ (by rfl) (fun w' _ => by (go_simp; try rfl))) ?_
      (try simp only [Act.put, List.getElem_toArray, List.getElem_cons_succ, List.getElem_cons_zero, List.setIfInBounds_toArray, List.set_cons_zero, List.set_cons_succ])
      refine wpLA_end ?_
      intro w3 hb
      have S3 := hid (S2.out.on hb)
      clear hb S2
      go_upto_region 6 with fail
      refine wpLA_start ?_
      refine wpLA_take (.slice A (xs.length) c) (yG_val _ (by rfl) (fun w' _ => by (go_simp; try rfl))) ?_
      (try simp only [Act.put, List.getElem_toArray, List.getElem_cons_succ, List.getElem_cons_zero, List.setIfInBounds_toArray, List.set_cons_zero, List.set_cons_succ])
      refine wpLA_big (n) (by rfl) (fun w' => by go_simp) (fun w' hb => KN.out _ _ w' (HS.out.on6 ((S3.out.on hb).below))) ?_
      intro A4 c4 w4 hb hs
      have S4 : Hid (St w w4 [(p1, sF s, ST)] [(A4, c4, ivs (dg (n)))]) := hid ((S3.out.on hb).more hs)
      clear hb hs S3
      (try simp only [Act.put, List.getElem_toArray, List.getElem_cons_succ, List.getElem_cons_zero, List.setIfInBounds_toArray, List.set_cons_zero, List.set_cons_succ])
      refine wpLA_take (.slice A4 ((dg (n)).length) c4) (yG_val _ (by rfl) (fun w' _ => by (go_simp; try rfl))) ?_
      (try simp only [Act.put, List.getElem_toArray, List.getElem_cons_succ, List.getElem_cons_zero, List.setIfInBounds_toArray, List.set_cons_zero, List.set_cons_succ])
      refine wpLA_end ?_
      intro w5 hb
      have S5 := hid (S4.out.on hb)
      clear hb S4
      go_upto_region 7 with fail
      refine wpLA_start ?_
      refine wpLA_take (.slice A (xs.length) c) (yG_val _ (by rfl) (fun w' _ => by (go_simp; try rfl))) ?_
      (try simp only [Act.put, List.getElem_toArray, List.getElem_cons_succ, List.getElem_cons_zero, List.setIfInBounds_toArray, List.set_cons_zero, List.set_cons_succ])
      refine wpLA_take (.int .i64 ((xs.length : Nat))) (yG_val _ (by rfl) (fun w' _ => by (go_simp; try rfl))) ?_
      (try simp only [Act.put, List.getElem_toArray, List.getElem_cons_succ, List.getElem_cons_zero, List.setIfInBounds_toArray, List.set_cons_zero, List.set_cons_succ])
      refine wpLA_take (.bool true) (yG_val _ (by rfl) (fun w' _ => by (go_simp; try simp only [hl32]))) ?_
      (try simp only [Act.put, List.getElem_toArray, List.getElem_cons_succ, List.getElem_cons_zero, List.setIfInBounds_toArray, List.set_cons_zero, List.set_cons_succ])
      refine wpLA_take (.bool true) (yG_val _ (by rfl) (fun w' _ => by (go_simp; try rfl))) ?_
      (try simp only [Act.put, List.getElem_toArray, List.getElem_cons_succ, List.getElem_cons_zero, List.setIfInBounds_toArray, List.set_cons_zero, List.set_cons_succ])
      refine wpLA_take (.slice A4 ((dg (n)).length) c4) (yG_val _ (by rfl) (fun w' _ => by (go_simp; try rfl))) ?_
      (try simp only [Act.put, List.getElem_toArray, List.getElem_cons_succ, List.getElem_cons_zero, List.setIfInBounds_toArray, List.set_cons_zero, List.set_cons_succ])
      refine wpLA_big (ordL) (by rfl) (fun w' => by go_simp) (fun w' hb => Order_any w') ?_
      intro A6 c6 w6 hb hs
      have S6 : Hid (St w w6 [(p1, sF s, ST)] [(A6, c6, ivs (dg (ordL))), (A4, c4, ivs (dg (n)))]) := hid ((S5.out.on hb).more hs)
      clear hb hs S5
      (try simp only [Act.put, List.getElem_toArray, List.getElem_cons_succ, List.getElem_cons_zero, List.setIfInBounds_toArray, List.set_cons_zero, List.set_cons_succ])
      refine wpLA_take (.bool true) (yG_call (by rfl) (fun w' => by go_simp) (fun w' hb => calls_drew (KD.out _ _ _ _ w' (S6.out.on hb).sq.2.1 (S6.out.on hb).sq.1))) ?_
      (try simp only [Act.put, List.getElem_toArray, List.getElem_cons_succ, List.getElem_cons_zero, List.setIfInBounds_toArray, List.set_cons_zero, List.set_cons_succ])
      refine wpLA_take (.bool true) (yG_val _ (by rfl) (fun w' _ => by (go_simp; try rfl))) ?_
      (try simp only [Act.put, List.getElem_toArray, List.getElem_cons_succ, List.getElem_cons_zero, List.setIfInBounds_toArray, List.set_cons_zero, List.set_cons_succ])
      refine wpLA_take (.bool true) (yG_val _ (by rfl) (fun w' _ => by (go_simp; try rfl))) ?_
      (try simp only [Act.put, List.getElem_toArray, List.getElem_cons_succ, List.getElem_cons_zero, List.setIfInBounds_toArray, List.set_cons_zero, List.set_cons_succ])
      refine wpLA_end ?_
      intro w7 hb
      have S7 := hid (S6.out.on hb)
      clear hb S6
      go_upto_region 8 with fail
      refine wpLA_start ?_
      refine wpLA_take (.bool true) (yG_val _ (by rfl) (fun w' _ => by (go_simp; try rfl))) ?_
      (try simp only [Act.put, List.getElem_toArray, List.getElem_cons_succ, List.getElem_cons_zero, List.setIfInBounds_toArray, List.set_cons_zero, List.set_cons_succ])
      refine wpLA_take (.bool true) (yG_val _ (by rfl) (fun w' _ => by (go_simp; try rfl))) ?_
      (try simp only [Act.put, List.getElem_toArray, List.getElem_cons_succ, List.getElem_cons_zero, List.setIfInBounds_toArray, List.set_cons_zero, List.set_cons_succ])
      refine wpLA_take (.bool false) (yG_val _ (by rfl) (fun w' _ => by (go_simp; try rfl))) ?_
      (try simp only [Act.put, List.getElem_toArray, List.getElem_cons_succ, List.getElem_cons_zero, List.setIfInBounds_toArray, List.set_cons_zero, List.set_cons_succ])
      refine wpLA_end ?_
      intro w8 hb
      have S8 := hid (S7.out.on hb)
      clear hb S7
      go_upto_region 10 with fail
      refine wp_region_grA 22 (by kernel_rfl) (by decide) ?_
      refine wpGrA_take (i := 0) (.bool true) rfl (by kernel_rfl) (by kernel_rfl) (fun _ _ _ h => h) (yG_val _ (by rfl) (fun w' _ => by (go_simp; try rfl))) ?_
      (try simp only [Act.put, List.getElem_toArray, List.getElem_cons_succ, List.getElem_cons_zero, List.setIfInBounds_toArray, List.set_cons_zero, List.set_cons_succ])
      refine wpGrA_take (i := 1) (.bool false) rfl (by kernel_rfl) (by kernel_rfl) (fun _ _ _ h => h) (yG_val _ (by rfl) (fun w' _ => by (go_simp; try rfl))) ?_
      (try simp only [Act.put, List.getElem_toArray, List.getElem_cons_succ, List.getElem_cons_zero, List.setIfInBounds_toArray, List.set_cons_zero, List.set_cons_succ])
      refine wpGrA_take (i := 2) (.bool false) rfl (by kernel_rfl) (by kernel_rfl) (fun _ _ _ h => h) (yG_val _ (by rfl) (fun w' _ => by (go_simp; try rfl))) ?_
      (try simp only [Act.put, List.getElem_toArray, List.getElem_cons_succ, List.getElem_cons_zero, List.setIfInBounds_toArray, List.set_cons_zero, List.set_cons_succ])
      refine wpGrA_take (i := 3) undef rfl (by kernel_rfl) (by kernel_rfl) (fun _ _ _ h => h) (yG_skip (by rfl)) ?_
      (try simp only [Act.put, List.getElem_toArray, List.getElem_cons_succ, List.getElem_cons_zero, List.setIfInBounds_toArray, List.set_cons_zero, List.set_cons_succ])
      refine wpGrA_take (i := 4) undef rfl (by kernel_rfl) (by kernel_rfl) (fun _ _ _ h => h) (yG_skip (by rfl)) ?_
      (try simp only [Act.put, List.getElem_toArray, List.getElem_cons_succ, List.getElem_cons_zero, List.setIfInBounds_toArray, List.set_cons_zero, List.set_cons_succ])
      refine wpGrA_take (i := 5) undef rfl (by kernel_rfl) (by kernel_rfl) (fun _ _ _ h => h) (yG_skip (by rfl)) ?_
      (try simp only [Act.put, List.getElem_toArray, List.getElem_cons_succ, List.getElem_cons_zero, List.setIfInBounds_toArray, List.set_cons_zero, List.set_cons_succ])
      refine wpGrA_take (i := 6) (.bool false) rfl (by kernel_rfl) (by kernel_rfl) (fun _ _ _ h => h) (yG_val _ (by rfl) (fun w' _ => by (go_simp; try rfl))) ?_
      (try simp only [Act.put, List.getElem_toArray, List.getElem_cons_succ, List.getElem_cons_zero, List.setIfInBounds_toArray, List.set_cons_zero, List.set_cons_succ])
      refine wpGrA_take (i := 7) (.bool false) rfl (by kernel_rfl) (by kernel_rfl) (fun _ _ _ h => h) (yG_val _ (by rfl) (fun w' _ => by (go_simp; try rfl))) ?_
      (try simp only [Act.put, List.getElem_toArray, List.getElem_cons_succ, List.getElem_cons_zero, List.setIfInBounds_toArray, List.set_cons_zero, List.set_cons_succ])
      refine wpGrA_take (i := 8) (.bool true) rfl (by kernel_rfl) (by kernel_rfl) (fun _ _ _ h => h) (yG_val _ (by rfl) (fun w' _ => by (go_simp; try rfl))) ?_
      (try simp only [Act.put, List.getElem_toArray, List.getElem_cons_succ, List.getElem_cons_zero, List.setIfInBounds_toArray, List.set_cons_zero, List.set_cons_succ])
      refine wpGrA_take (i := 9) (.bool true) rfl (by kernel_rfl) (by kernel_rfl) (fun _ _ _ h => h) (yG_val _ (by rfl) (fun w' _ => by (go_simp; try rfl))) ?_
      (try simp only [Act.put, List.getElem_toArray, List.getElem_cons_succ, List.getElem_cons_zero, List.setIfInBounds_toArray, List.set_cons_zero, List.set_cons_succ])
      refine wpGrA_take (i := 10) (.agg (sF s)) rfl (by kernel_rfl) (by kernel_rfl) (fun _ _ _ h => h) (yG_part (by rfl) ST (.tmp 3) rfl p1 0 rfl ST (sF s) (sF s) (0, 0) _ S8.out.cl.1 (sF_all _) Try.underlying26 rfl (infoSF _)) ?_
      (try simp only [Act.put, List.getElem_toArray, List.getElem_cons_succ, List.getElem_cons_zero, List.setIfInBounds_toArray, List.set_cons_zero, List.set_cons_succ])
      refine wpGrA_take (i := 12) (.slice A (xs.length) c) rfl (by kernel_rfl) (by kernel_rfl) (fun _ _ _ h => h) (yG_val _ (by rfl) (fun w' _ => by (go_simp; try rfl))) ?_
      (try simp only [Act.put, List.getElem_toArray, List.getElem_cons_succ, List.getElem_cons_zero, List.setIfInBounds_toArray, List.set_cons_zero, List.set_cons_succ])
      refine wpGrA_bytes (i := 11) (xs) rfl (by kernel_rfl) (by rfl) (fun w' => by go_simp) (fun w' hb => KB.out w') ?_
      intro A9 c9 w9 hb hs
      have S9 : Hid (St w w9 [(p1, sF s, ST)] [(A9, c9, bvs (xs)), (A6, c6, ivs (dg (ordL))), (A4, c4, ivs (dg (n)))]) := hid ((S8.out.on hb).more hs)
      clear hb hs S8
      (try simp only [Act.put, List.getElem_toArray, List.getElem_cons_succ, List.getElem_cons_zero, List.setIfInBounds_toArray, List.set_cons_zero, List.set_cons_succ])
      refine wpGrA_take (i := 13) (.bool true) rfl (by kernel_rfl) (by kernel_rfl) (fun _ _ _ h => h) (yG_call (by rfl) (fun w' => by go_simp) (fun w' hb => KSM.out _ _ _ _ w' (S9.out.on hb).sq.1 (HS.out.on6 ((S9.out.on hb).below)))) ?_
      (try simp only [Act.put, List.getElem_toArray, List.getElem_cons_succ, List.getElem_cons_zero, List.setIfInBounds_toArray, List.set_cons_zero, List.set_cons_succ])
      refine wpGrA_take (i := 14) (.bool true) rfl (by kernel_rfl) (by kernel_rfl) (fun _ _ _ h => h) (yG_val _ (by rfl) (fun w' _ => by (go_simp; try rfl))) ?_
      (try simp only [Act.put, List.getElem_toArray, List.getElem_cons_succ, List.getElem_cons_zero, List.setIfInBounds_toArray, List.set_cons_zero, List.set_cons_succ])
      refine wpGrA_take (i := 15) (.bool true) rfl (by kernel_rfl) (by kernel_rfl) (fun _ _ _ h => h) (yG_val _ (by rfl) (fun w' _ => by (go_simp; try rfl))) ?_
      (try simp only [Act.put, List.getElem_toArray, List.getElem_cons_succ, List.getElem_cons_zero, List.setIfInBounds_toArray, List.set_cons_zero, List.set_cons_succ])
      refine wpGrA_take (i := 16) (.agg (sF s)) rfl (by kernel_rfl) (by kernel_rfl) (fun _ _ _ h => h) (yG_part (by rfl) ST (.tmp 3) rfl p1 0 rfl ST (sF s) (sF s) (0, 0) _ S9.out.cl.1 (sF_all _) Try.underlying26 rfl (infoSF _)) ?_
      (try simp only [Act.put, List.getElem_toArray, List.getElem_cons_succ, List.getElem_cons_zero, List.setIfInBounds_toArray, List.set_cons_zero, List.set_cons_succ])
      refine wpGrA_take (i := 17) (.slice A (xs.length) c) rfl (by kernel_rfl) (by kernel_rfl) (fun _ _ _ h => h) (yG_val _ (by rfl) (fun w' _ => by (go_simp; try rfl))) ?_
      (try simp only [Act.put, List.getElem_toArray, List.getElem_cons_succ, List.getElem_cons_zero, List.setIfInBounds_toArray, List.set_cons_zero, List.set_cons_succ])
      refine wpGrA_take (i := 18) (.agg (sF s)) rfl (by kernel_rfl) (by kernel_rfl) (fun _ _ _ h => h) (yG_call (by rfl) (fun w' => by go_simp) (fun w' hb => KO.out _ _ w' (HS.out.on6 ((S9.out.on hb).below)))) ?_
      (try simp only [Act.put, List.getElem_toArray, List.getElem_cons_succ, List.getElem_cons_zero, List.setIfInBounds_toArray, List.set_cons_zero, List.set_cons_succ])
      refine wpGrA_take (i := 19) (.bool true) rfl (by kernel_rfl) (by kernel_rfl) (fun _ _ _ h => h) (yG_call (by rfl) (fun w' => by go_simp) (fun w' hb => KT.out w')) ?_
      (try simp only [Act.put, List.getElem_toArray, List.getElem_cons_succ, List.getElem_cons_zero, List.setIfInBounds_toArray, List.set_cons_zero, List.set_cons_succ])
      refine wpGrA_take (i := 20) (.bool true) rfl (by kernel_rfl) (by kernel_rfl) (fun _ _ _ h => h) (yG_val _ (by rfl) (fun w' _ => by (go_simp; try rfl))) ?_
      (try simp only [Act.put, List.getElem_toArray, List.getElem_cons_succ, List.getElem_cons_zero, List.setIfInBounds_toArray, List.set_cons_zero, List.set_cons_succ])
      refine wpGrA_take (i := 21) (.bool true) rfl (by kernel_rfl) (by kernel_rfl) (fun _ _ _ h => h) (yG_val _ (by rfl) (fun w' _ => by (go_simp; try rfl))) ?_
      (try simp only [Act.put, List.getElem_toArray, List.getElem_cons_succ, List.getElem_cons_zero, List.setIfInBounds_toArray, List.set_cons_zero, List.set_cons_succ])
      refine wpGrA_end (by kernel_rfl) ?_
      intro w10 hb
      have S10 := hid (S9.out.on hb)
      clear hb S9
      refine wpLA_here ?_
      refine wpLA_take (.bool true) (yG_val _ (by rfl) (fun w' _ => by (go_simp; try rfl))) ?_
      (try simp only [Act.put, List.getElem_toArray, List.getElem_cons_succ, List.getElem_cons_zero, List.setIfInBounds_toArray, List.set_cons_zero, List.set_cons_succ])
      refine wpLA_end ?_
      intro w11 hb
      have S11 := hid (S10.out.on hb)
      clear hb S10
      go_wp2_with fail
      go_ret
      exact ⟨rfl, S11.out.below⟩
    · have hb : exB xs = false := decide_eq_false fun h => hlt h.2
      have hv : s = 0 := by rw [hs]; refine Fin.ext ?_; show exN xs = 0; unfold exN; rw [hb]; rfl
      rw [hb] at KE
      rw [decide_eq_false hlt, ← hn] at KD
      rw [← hn] at KN
      rw [decide_eq_true hv] at KZ
      clear hn hs hsv hb hv hlt h32 hx KB KO
      go_enter Try.func4, Try.ntmps4
      go_wp2_with fail
      refine (HAL.out _).mono ?_
      rintro e w0 ⟨rfl, hb⟩
      have S0 : Hid (St w w0 [] []) := hid ((St.start w).on hb)
      clear hb
      go_upto_region 5 with fail
      refine wpLA_start ?_
      refine wpLA_take (.slice A (xs.length) c) (yG_val _ (by rfl) (fun w' _ => by (go_simp; try rfl))) ?_
      (try simp only [Act.put, List.getElem_toArray, List.getElem_cons_succ, List.getElem_cons_zero, List.setIfInBounds_toArray, List.set_cons_zero, List.set_cons_succ])
      refine wpLA_take (.tuple #[(.agg (sF s)), (.bool false)]) (yG_call (by rfl) (fun w' => by go_simp) (fun w' hb => KE.out w' (HS.out.on6 ((S0.out.on hb).below)))) ?_
      (try simp only [Act.put, List.getElem_toArray, List.getElem_cons_succ, List.getElem_cons_zero, List.setIfInBounds_toArray, List.set_cons_zero, List.set_cons_succ])
      refine wpLA_take (.tuple #[(.agg (sF s)), (.bool false)]) (yG_val _ (by rfl) (fun w' _ => by (go_simp; try rfl))) ?_
      (try simp only [Act.put, List.getElem_toArray, List.getElem_cons_succ, List.getElem_cons_zero, List.setIfInBounds_toArray, List.set_cons_zero, List.set_cons_succ])
      refine wpLA_take (.agg (sF s)) (yG_val _ (by rfl) (fun w' _ => by (go_simp; try rfl))) ?_
      (try simp only [Act.put, List.getElem_toArray, List.getElem_cons_succ, List.getElem_cons_zero, List.setIfInBounds_toArray, List.set_cons_zero, List.set_cons_succ])
      refine wpLA_take (.bool false) (yG_val _ (by rfl) (fun w' _ => by (go_simp; try rfl))) ?_
      (try simp only [Act.put, List.getElem_toArray, List.getElem_cons_succ, List.getElem_cons_zero, List.setIfInBounds_toArray, List.set_cons_zero, List.set_cons_succ])
      refine wpLA_alloc (by rfl) rfl zeroS ?_
      intro p1 w1 hp hz hb
      have S1 : Hid (St w w1 [(p1, zS, ST)] []) := hid (S0.out.alloc hb hp hz)
      clear hp hz hb S0
      (try simp only [Act.put, List.getElem_toArray, List.getElem_cons_succ, List.getElem_cons_zero, List.setIfInBounds_toArray, List.set_cons_zero, List.set_cons_succ])
      refine wpLA_store rfl ST (.tmp 3) (.tmp 15) rfl p1 (sF s) rfl rfl ST (zS) S1.out.cl.1 (infoSF _) rfl (oneSF _) ?_
      intro wx hb
      have S2 : Hid (St w (wx.setRow p1 (sF s)) [(p1, sF s, ST)] []) := hid ((S1.out.on hb).put0 0 rfl)
      clear hb S1
      generalize wx.setRow p1 (sF s) = w2 at S2 ⊢
      (try simp only [Act.put, List.getElem_toArray, List.getElem_cons_succ, List.getElem_cons_zero, List.setIfInBounds_toArray, List.set_cons_zero, List.set_cons_succ])
      refine wpLA_take (.bool false) (yG_val _ (by rfl) (fun w' _ => by (go_simp; try rfl))) ?_
      (try simp only [Act.put, List.getElem_toArray, List.getElem_cons_succ, List.getElem_cons_zero, List.setIfInBounds_toArray, List.set_cons_zero, List.set_cons_succ])
      refine wpLA_end ?_
      intro w3 hb
      have S3 := hid (S2.out.on hb)
      clear hb S2
      go_upto_region 6 with fail
      refine wpLA_start ?_
      refine wpLA_take (.slice A (xs.length) c) (yG_val _ (by rfl) (fun w' _ => by (go_simp; try rfl))) ?_
      (try simp only [Act.put, List.getElem_toArray, List.getElem_cons_succ, List.getElem_cons_zero, List.setIfInBounds_toArray, List.set_cons_zero, List.set_cons_succ])
      refine wpLA_big (n) (by rfl) (fun w' => by go_simp) (fun w' hb => KN.out _ _ w' (HS.out.on6 ((S3.out.on hb).below))) ?_
      intro A4 c4 w4 hb hs
      have S4 : Hid (St w w4 [(p1, sF s, ST)] [(A4, c4, ivs (dg (n)))]) := hid ((S3.out.on hb).more hs)
      clear hb hs S3
      (try simp only [Act.put, List.getElem_toArray, List.getElem_cons_succ, List.getElem_cons_zero, List.setIfInBounds_toArray, List.set_cons_zero, List.set_cons_succ])
      refine wpLA_take (.slice A4 ((dg (n)).length) c4) (yG_val _ (by rfl) (fun w' _ => by (go_simp; try rfl))) ?_
      (try simp only [Act.put, List.getElem_toArray, List.getElem_cons_succ, List.getElem_cons_zero, List.setIfInBounds_toArray, List.set_cons_zero, List.set_cons_succ])
      refine wpLA_end ?_
      intro w5 hb
      have S5 := hid (S4.out.on hb)
      clear hb S4
      go_upto_region 7 with fail
      refine wpLA_start ?_
      refine wpLA_take (.slice A (xs.length) c) (yG_val _ (by rfl) (fun w' _ => by (go_simp; try rfl))) ?_
      (try simp only [Act.put, List.getElem_toArray, List.getElem_cons_succ, List.getElem_cons_zero, List.setIfInBounds_toArray, List.set_cons_zero, List.set_cons_succ])
      refine wpLA_take (.int .i64 ((xs.length : Nat))) (yG_val _ (by rfl) (fun w' _ => by (go_simp; try rfl))) ?_
      (try simp only [Act.put, List.getElem_toArray, List.getElem_cons_succ, List.getElem_cons_zero, List.setIfInBounds_toArray, List.set_cons_zero, List.set_cons_succ])
      refine wpLA_take (.bool true) (yG_val _ (by rfl) (fun w' _ => by (go_simp; try simp only [hl32]))) ?_
      (try simp only [Act.put, List.getElem_toArray, List.getElem_cons_succ, List.getElem_cons_zero, List.setIfInBounds_toArray, List.set_cons_zero, List.set_cons_succ])
      refine wpLA_take (.bool true) (yG_val _ (by rfl) (fun w' _ => by (go_simp; try rfl))) ?_
      (try simp only [Act.put, List.getElem_toArray, List.getElem_cons_succ, List.getElem_cons_zero, List.setIfInBounds_toArray, List.set_cons_zero, List.set_cons_succ])
      refine wpLA_take (.slice A4 ((dg (n)).length) c4) (yG_val _ (by rfl) (fun w' _ => by (go_simp; try rfl))) ?_
      (try simp only [Act.put, List.getElem_toArray, List.getElem_cons_succ, List.getElem_cons_zero, List.setIfInBounds_toArray, List.set_cons_zero, List.set_cons_succ])
      refine wpLA_big (ordL) (by rfl) (fun w' => by go_simp) (fun w' hb => Order_any w') ?_
      intro A6 c6 w6 hb hs
      have S6 : Hid (St w w6 [(p1, sF s, ST)] [(A6, c6, ivs (dg (ordL))), (A4, c4, ivs (dg (n)))]) := hid ((S5.out.on hb).more hs)
      clear hb hs S5
      (try simp only [Act.put, List.getElem_toArray, List.getElem_cons_succ, List.getElem_cons_zero, List.setIfInBounds_toArray, List.set_cons_zero, List.set_cons_succ])
      refine wpLA_take (.bool false) (yG_call (by rfl) (fun w' => by go_simp) (fun w' hb => calls_drew (KD.out _ _ _ _ w' (S6.out.on hb).sq.2.1 (S6.out.on hb).sq.1))) ?_
      (try simp only [Act.put, List.getElem_toArray, List.getElem_cons_succ, List.getElem_cons_zero, List.setIfInBounds_toArray, List.set_cons_zero, List.set_cons_succ])
      refine wpLA_take (.bool false) (yG_val _ (by rfl) (fun w' _ => by (go_simp; try rfl))) ?_
      (try simp only [Act.put, List.getElem_toArray, List.getElem_cons_succ, List.getElem_cons_zero, List.setIfInBounds_toArray, List.set_cons_zero, List.set_cons_succ])
      refine wpLA_take (.bool false) (yG_val _ (by rfl) (fun w' _ => by (go_simp; try rfl))) ?_
      (try simp only [Act.put, List.getElem_toArray, List.getElem_cons_succ, List.getElem_cons_zero, List.setIfInBounds_toArray, List.set_cons_zero, List.set_cons_succ])
      refine wpLA_end ?_
      intro w7 hb
      have S7 := hid (S6.out.on hb)
      clear hb S6
      go_upto_region 8 with fail
      refine wpLA_start ?_
      refine wpLA_take (.bool false) (yG_val _ (by rfl) (fun w' _ => by (go_simp; try rfl))) ?_
      (try simp only [Act.put, List.getElem_toArray, List.getElem_cons_succ, List.getElem_cons_zero, List.setIfInBounds_toArray, List.set_cons_zero, List.set_cons_succ])
      refine wpLA_take (.bool false) (yG_val _ (by rfl) (fun w' _ => by (go_simp; try rfl))) ?_
      (try simp only [Act.put, List.getElem_toArray, List.getElem_cons_succ, List.getElem_cons_zero, List.setIfInBounds_toArray, List.set_cons_zero, List.set_cons_succ])
      refine wpLA_take (.bool false) (yG_val _ (by rfl) (fun w' _ => by (go_simp; try rfl))) ?_
      (try simp only [Act.put, List.getElem_toArray, List.getElem_cons_succ, List.getElem_cons_zero, List.setIfInBounds_toArray, List.set_cons_zero, List.set_cons_succ])
      refine wpLA_end ?_
      intro w8 hb
      have S8 := hid (S7.out.on hb)
      clear hb S7
      go_upto_region 10 with fail
      refine wp_region_grA 22 (by kernel_rfl) (by decide) ?_
      refine wpGrA_take (i := 0) (.bool false) rfl (by kernel_rfl) (by kernel_rfl) (fun _ _ _ h => h) (yG_val _ (by rfl) (fun w' _ => by (go_simp; try rfl))) ?_
      (try simp only [Act.put, List.getElem_toArray, List.getElem_cons_succ, List.getElem_cons_zero, List.setIfInBounds_toArray, List.set_cons_zero, List.set_cons_succ])
      refine wpGrA_take (i := 1) (.bool true) rfl (by kernel_rfl) (by kernel_rfl) (fun _ _ _ h => h) (yG_val _ (by rfl) (fun w' _ => by (go_simp; try rfl))) ?_
      (try simp only [Act.put, List.getElem_toArray, List.getElem_cons_succ, List.getElem_cons_zero, List.setIfInBounds_toArray, List.set_cons_zero, List.set_cons_succ])
      refine wpGrA_take (i := 2) (.bool true) rfl (by kernel_rfl) (by kernel_rfl) (fun _ _ _ h => h) (yG_val _ (by rfl) (fun w' _ => by (go_simp; try rfl))) ?_
      (try simp only [Act.put, List.getElem_toArray, List.getElem_cons_succ, List.getElem_cons_zero, List.setIfInBounds_toArray, List.set_cons_zero, List.set_cons_succ])
      refine wpGrA_take (i := 3) (.agg (sF s)) rfl (by kernel_rfl) (by kernel_rfl) (fun _ _ _ h => h) (yG_part (by rfl) ST (.tmp 3) rfl p1 0 rfl ST (sF s) (sF s) (0, 0) _ S8.out.cl.1 (sF_all _) Try.underlying26 rfl (infoSF _)) ?_
      (try simp only [Act.put, List.getElem_toArray, List.getElem_cons_succ, List.getElem_cons_zero, List.setIfInBounds_toArray, List.set_cons_zero, List.set_cons_succ])
      refine wpGrA_take (i := 4) (.agg (zS)) rfl (by kernel_rfl) (by kernel_rfl) (fun _ _ _ h => h) (yG_build (by rfl) ST _ rfl [] rfl _ builtS) ?_
      (try simp only [Act.put, List.getElem_toArray, List.getElem_cons_succ, List.getElem_cons_zero, List.setIfInBounds_toArray, List.set_cons_zero, List.set_cons_succ])
      refine wpGrA_take (i := 5) (.bool true) rfl (by kernel_rfl) (by kernel_rfl) (fun _ _ _ h => h) (yG_call (by rfl) (fun w' => by go_simp) (fun w' hb => KZ.out w')) ?_
      (try simp only [Act.put, List.getElem_toArray, List.getElem_cons_succ, List.getElem_cons_zero, List.setIfInBounds_toArray, List.set_cons_zero, List.set_cons_succ])
      refine wpGrA_take (i := 6) (.bool true) rfl (by kernel_rfl) (by kernel_rfl) (fun _ _ _ h => h) (yG_val _ (by rfl) (fun w' _ => by (go_simp; try rfl))) ?_
      (try simp only [Act.put, List.getElem_toArray, List.getElem_cons_succ, List.getElem_cons_zero, List.setIfInBounds_toArray, List.set_cons_zero, List.set_cons_succ])
      refine wpGrA_take (i := 7) (.bool true) rfl (by kernel_rfl) (by kernel_rfl) (fun _ _ _ h => h) (yG_val _ (by rfl) (fun w' _ => by (go_simp; try rfl))) ?_
      (try simp only [Act.put, List.getElem_toArray, List.getElem_cons_succ, List.getElem_cons_zero, List.setIfInBounds_toArray, List.set_cons_zero, List.set_cons_succ])
      refine wpGrA_take (i := 8) undef rfl (by kernel_rfl) (by kernel_rfl) (fun _ _ _ h => h) (yG_skip (by rfl)) ?_
      (try simp only [Act.put, List.getElem_toArray, List.getElem_cons_succ, List.getElem_cons_zero, List.setIfInBounds_toArray, List.set_cons_zero, List.set_cons_succ])
      refine wpGrA_take (i := 9) undef rfl (by kernel_rfl) (by kernel_rfl) (fun _ _ _ h => h) (yG_skip (by rfl)) ?_
      (try simp only [Act.put, List.getElem_toArray, List.getElem_cons_succ, List.getElem_cons_zero, List.setIfInBounds_toArray, List.set_cons_zero, List.set_cons_succ])
      refine wpGrA_take (i := 10) undef rfl (by kernel_rfl) (by kernel_rfl) (fun _ _ _ h => h) (yG_skip (by rfl)) ?_
      (try simp only [Act.put, List.getElem_toArray, List.getElem_cons_succ, List.getElem_cons_zero, List.setIfInBounds_toArray, List.set_cons_zero, List.set_cons_succ])
      refine wpGrA_take (i := 11) undef rfl (by kernel_rfl) (by kernel_rfl) (fun _ _ _ h => h) (yG_skip (by rfl)) ?_
      (try simp only [Act.put, List.getElem_toArray, List.getElem_cons_succ, List.getElem_cons_zero, List.setIfInBounds_toArray, List.set_cons_zero, List.set_cons_succ])
      refine wpGrA_take (i := 12) undef rfl (by kernel_rfl) (by kernel_rfl) (fun _ _ _ h => h) (yG_skip (by rfl)) ?_
      (try simp only [Act.put, List.getElem_toArray, List.getElem_cons_succ, List.getElem_cons_zero, List.setIfInBounds_toArray, List.set_cons_zero, List.set_cons_succ])
      refine wpGrA_take (i := 13) undef rfl (by kernel_rfl) (by kernel_rfl) (fun _ _ _ h => h) (yG_skip (by rfl)) ?_
      (try simp only [Act.put, List.getElem_toArray, List.getElem_cons_succ, List.getElem_cons_zero, List.setIfInBounds_toArray, List.set_cons_zero, List.set_cons_succ])
      refine wpGrA_take (i := 14) undef rfl (by kernel_rfl) (by kernel_rfl) (fun _ _ _ h => h) (yG_skip (by rfl)) ?_
      (try simp only [Act.put, List.getElem_toArray, List.getElem_cons_succ, List.getElem_cons_zero, List.setIfInBounds_toArray, List.set_cons_zero, List.set_cons_succ])
      refine wpGrA_take (i := 15) undef rfl (by kernel_rfl) (by kernel_rfl) (fun _ _ _ h => h) (yG_skip (by rfl)) ?_
      (try simp only [Act.put, List.getElem_toArray, List.getElem_cons_succ, List.getElem_cons_zero, List.setIfInBounds_toArray, List.set_cons_zero, List.set_cons_succ])
      refine wpGrA_take (i := 16) undef rfl (by kernel_rfl) (by kernel_rfl) (fun _ _ _ h => h) (yG_skip (by rfl)) ?_
      (try simp only [Act.put, List.getElem_toArray, List.getElem_cons_succ, List.getElem_cons_zero, List.setIfInBounds_toArray, List.set_cons_zero, List.set_cons_succ])
      refine wpGrA_take (i := 17) undef rfl (by kernel_rfl) (by kernel_rfl) (fun _ _ _ h => h) (yG_skip (by rfl)) ?_
      (try simp only [Act.put, List.getElem_toArray, List.getElem_cons_succ, List.getElem_cons_zero, List.setIfInBounds_toArray, List.set_cons_zero, List.set_cons_succ])
      refine wpGrA_take (i := 18) undef rfl (by kernel_rfl) (by kernel_rfl) (fun _ _ _ h => h) (yG_skip (by rfl)) ?_
      (try simp only [Act.put, List.getElem_toArray, List.getElem_cons_succ, List.getElem_cons_zero, List.setIfInBounds_toArray, List.set_cons_zero, List.set_cons_succ])
      refine wpGrA_take (i := 19) undef rfl (by kernel_rfl) (by kernel_rfl) (fun _ _ _ h => h) (yG_skip (by rfl)) ?_
      (try simp only [Act.put, List.getElem_toArray, List.getElem_cons_succ, List.getElem_cons_zero, List.setIfInBounds_toArray, List.set_cons_zero, List.set_cons_succ])
      refine wpGrA_take (i := 20) undef rfl (by kernel_rfl) (by kernel_rfl) (fun _ _ _ h => h) (yG_skip (by rfl)) ?_
      (try simp only [Act.put, List.getElem_toArray, List.getElem_cons_succ, List.getElem_cons_zero, List.setIfInBounds_toArray, List.set_cons_zero, List.set_cons_succ])
      refine wpGrA_take (i := 21) (.bool true) rfl (by kernel_rfl) (by kernel_rfl) (fun _ _ _ h => h) (yG_val _ (by rfl) (fun w' _ => by (go_simp; try rfl))) ?_
      (try simp only [Act.put, List.getElem_toArray, List.getElem_cons_succ, List.getElem_cons_zero, List.setIfInBounds_toArray, List.set_cons_zero, List.set_cons_succ])
      refine wpGrA_end (by kernel_rfl) ?_
      intro w9 hb
      have S9 := hid (S8.out.on hb)
      clear hb S8
      refine wpLA_here ?_
      refine wpLA_take (.bool true) (yG_val _ (by rfl) (fun w' _ => by (go_simp; try rfl))) ?_
      (try simp only [Act.put, List.getElem_toArray, List.getElem_cons_succ, List.getElem_cons_zero, List.setIfInBounds_toArray, List.set_cons_zero, List.set_cons_succ])
      refine wpLA_end ?_
      intro w10 hb
      have S10 := hid (S9.out.on hb)
      clear hb S9
      go_wp2_with fail
      go_ret
      exact ⟨rfl, S10.out.below⟩
  · have hl32 : ((xs.length : Int) == 32) = false := by rw [beq_eq_false_iff_ne]; omega
    have hb : exB xs = false := decide_eq_false fun h => h32 h.1
    have hv : s = 0 := by rw [hs]; refine Fin.ext ?_; show exN xs = 0; unfold exN; rw [hb]; rfl
    rw [hb] at KE
    rw [← hn] at KN
    rw [decide_eq_true hv] at KZ
    clear hn hs hsv hb hv h32 hx KB KO KD
    go_enter Try.func4, Try.ntmps4
    go_wp2_with fail
    refine (HAL.out _).mono ?_
    rintro e w0 ⟨rfl, hb⟩
    have S0 : Hid (St w w0 [] []) := hid ((St.start w).on hb)
    clear hb
    go_upto_region 5 with fail
    refine wpLA_start ?_
    refine wpLA_take (.slice A (xs.length) c) (yG_val _ (by rfl) (fun w' _ => by (go_simp; try rfl))) ?_
    (try simp only [Act.put, List.getElem_toArray, List.getElem_cons_succ, List.getElem_cons_zero, List.setIfInBounds_toArray, List.set_cons_zero, List.set_cons_succ])
    refine wpLA_take (.tuple #[(.agg (sF s)), (.bool false)]) (yG_call (by rfl) (fun w' => by go_simp) (fun w' hb => KE.out w' (HS.out.on6 ((S0.out.on hb).below)))) ?_
    (try simp only [Act.put, List.getElem_toArray, List.getElem_cons_succ, List.getElem_cons_zero, List.setIfInBounds_toArray, List.set_cons_zero, List.set_cons_succ])
    refine wpLA_take (.tuple #[(.agg (sF s)), (.bool false)]) (yG_val _ (by rfl) (fun w' _ => by (go_simp; try rfl))) ?_
    (try simp only [Act.put, List.getElem_toArray, List.getElem_cons_succ, List.getElem_cons_zero, List.setIfInBounds_toArray, List.set_cons_zero, List.set_cons_succ])
    refine wpLA_take (.agg (sF s)) (yG_val _ (by rfl) (fun w' _ => by (go_simp; try rfl))) ?_
    (try simp only [Act.put, List.getElem_toArray, List.getElem_cons_succ, List.getElem_cons_zero, List.setIfInBounds_toArray, List.set_cons_zero, List.set_cons_succ])
    refine wpLA_take (.bool false) (yG_val _ (by rfl) (fun w' _ => by (go_simp; try rfl))) ?_
    (try simp only [Act.put, List.getElem_toArray, List.getElem_cons_succ, List.getElem_cons_zero, List.setIfInBounds_toArray, List.set_cons_zero, List.set_cons_succ])
    refine wpLA_alloc (by rfl) rfl zeroS ?_
    intro p1 w1 hp hz hb
    have S1 : Hid (St w w1 [(p1, zS, ST)] []) := hid (S0.out.alloc hb hp hz)
    clear hp hz hb S0
    (try simp only [Act.put, List.getElem_toArray, List.getElem_cons_succ, List.getElem_cons_zero, List.setIfInBounds_toArray, List.set_cons_zero, List.set_cons_succ])
    refine wpLA_store rfl ST (.tmp 3) (.tmp 15) rfl p1 (sF s) rfl rfl ST (zS) S1.out.cl.1 (infoSF _) rfl (oneSF _) ?_
    intro wx hb
    have S2 : Hid (St w (wx.setRow p1 (sF s)) [(p1, sF s, ST)] []) := hid ((S1.out.on hb).put0 0 rfl)
    clear hb S1
    generalize wx.setRow p1 (sF s) = w2 at S2 ⊢
    (try simp only [Act.put, List.getElem_toArray, List.getElem_cons_succ, List.getElem_cons_zero, List.setIfInBounds_toArray, List.set_cons_zero, List.set_cons_succ])
    refine wpLA_take (.bool false) (yG_val _ (by rfl) (fun w' _ => by (go_simp; try rfl))) ?_
    (try simp only [Act.put, List.getElem_toArray, List.getElem_cons_succ, List.getElem_cons_zero, List.setIfInBounds_toArray, List.set_cons_zero, List.set_cons_succ])
    refine wpLA_end ?_
    intro w3 hb
    have S3 := hid (S2.out.on hb)
    clear hb S2
    go_upto_region 6 with fail
    refine wpLA_start ?_
    refine wpLA_take (.slice A (xs.length) c) (yG_val _ (by rfl) (fun w' _ => by (go_simp; try rfl))) ?_
    (try simp only [Act.put, List.getElem_toArray, List.getElem_cons_succ, List.getElem_cons_zero, List.setIfInBounds_toArray, List.set_cons_zero, List.set_cons_succ])
    refine wpLA_big (n) (by rfl) (fun w' => by go_simp) (fun w' hb => KN.out _ _ w' (HS.out.on6 ((S3.out.on hb).below))) ?_
    intro A4 c4 w4 hb hs
    have S4 : Hid (St w w4 [(p1, sF s, ST)] [(A4, c4, ivs (dg (n)))]) := hid ((S3.out.on hb).more hs)
    clear hb hs S3
    (try simp only [Act.put, List.getElem_toArray, List.getElem_cons_succ, List.getElem_cons_zero, List.setIfInBounds_toArray, List.set_cons_zero, List.set_cons_succ])
    refine wpLA_take (.slice A4 ((dg (n)).length) c4) (yG_val _ (by rfl) (fun w' _ => by (go_simp; try rfl))) ?_
    (try simp only [Act.put, List.getElem_toArray, List.getElem_cons_succ, List.getElem_cons_zero, List.setIfInBounds_toArray, List.set_cons_zero, List.set_cons_succ])
    refine wpLA_end ?_
    intro w5 hb
    have S5 := hid (S4.out.on hb)
    clear hb S4
    go_upto_region 7 with fail
    refine wpLA_start ?_
    refine wpLA_take (.slice A (xs.length) c) (yG_val _ (by rfl) (fun w' _ => by (go_simp; try rfl))) ?_
    (try simp only [Act.put, List.getElem_toArray, List.getElem_cons_succ, List.getElem_cons_zero, List.setIfInBounds_toArray, List.set_cons_zero, List.set_cons_succ])
    refine wpLA_take (.int .i64 ((xs.length : Nat))) (yG_val _ (by rfl) (fun w' _ => by (go_simp; try rfl))) ?_
    (try simp only [Act.put, List.getElem_toArray, List.getElem_cons_succ, List.getElem_cons_zero, List.setIfInBounds_toArray, List.set_cons_zero, List.set_cons_succ])
    refine wpLA_take (.bool false) (yG_val _ (by rfl) (fun w' _ => by (go_simp; try simp only [hl32]))) ?_
    (try simp only [Act.put, List.getElem_toArray, List.getElem_cons_succ, List.getElem_cons_zero, List.setIfInBounds_toArray, List.set_cons_zero, List.set_cons_succ])
    refine wpLA_take (.bool false) (yG_val _ (by rfl) (fun w' _ => by (go_simp; try rfl))) ?_
    (try simp only [Act.put, List.getElem_toArray, List.getElem_cons_succ, List.getElem_cons_zero, List.setIfInBounds_toArray, List.set_cons_zero, List.set_cons_succ])
    refine wpLA_take undef (yG_skip (by rfl)) ?_
    (try simp only [Act.put, List.getElem_toArray, List.getElem_cons_succ, List.getElem_cons_zero, List.setIfInBounds_toArray, List.set_cons_zero, List.set_cons_succ])
    refine wpLA_take undef (yG_skip (by rfl)) ?_
    (try simp only [Act.put, List.getElem_toArray, List.getElem_cons_succ, List.getElem_cons_zero, List.setIfInBounds_toArray, List.set_cons_zero, List.set_cons_succ])
    refine wpLA_take undef (yG_skip (by rfl)) ?_
    (try simp only [Act.put, List.getElem_toArray, List.getElem_cons_succ, List.getElem_cons_zero, List.setIfInBounds_toArray, List.set_cons_zero, List.set_cons_succ])
    refine wpLA_take (.bool false) (yG_val _ (by rfl) (fun w' _ => by (go_simp; try rfl))) ?_
    (try simp only [Act.put, List.getElem_toArray, List.getElem_cons_succ, List.getElem_cons_zero, List.setIfInBounds_toArray, List.set_cons_zero, List.set_cons_succ])
    refine wpLA_take (.bool false) (yG_val _ (by rfl) (fun w' _ => by (go_simp; try rfl))) ?_
    (try simp only [Act.put, List.getElem_toArray, List.getElem_cons_succ, List.getElem_cons_zero, List.setIfInBounds_toArray, List.set_cons_zero, List.set_cons_succ])
    refine wpLA_end ?_
    intro w6 hb
    have S6 := hid (S5.out.on hb)
    clear hb S5
    go_upto_region 8 with fail
    refine wpLA_start ?_
    refine wpLA_take (.bool false) (yG_val _ (by rfl) (fun w' _ => by (go_simp; try rfl))) ?_
    (try simp only [Act.put, List.getElem_toArray, List.getElem_cons_succ, List.getElem_cons_zero, List.setIfInBounds_toArray, List.set_cons_zero, List.set_cons_succ])
    refine wpLA_take (.bool false) (yG_val _ (by rfl) (fun w' _ => by (go_simp; try rfl))) ?_
    (try simp only [Act.put, List.getElem_toArray, List.getElem_cons_succ, List.getElem_cons_zero, List.setIfInBounds_toArray, List.set_cons_zero, List.set_cons_succ])
    refine wpLA_take (.bool false) (yG_val _ (by rfl) (fun w' _ => by (go_simp; try rfl))) ?_
    (try simp only [Act.put, List.getElem_toArray, List.getElem_cons_succ, List.getElem_cons_zero, List.setIfInBounds_toArray, List.set_cons_zero, List.set_cons_succ])
    refine wpLA_end ?_
    intro w7 hb
    have S7 := hid (S6.out.on hb)
    clear hb S6
    go_upto_region 10 with fail
    refine wp_region_grA 22 (by kernel_rfl) (by decide) ?_
    refine wpGrA_take (i := 0) (.bool false) rfl (by kernel_rfl) (by kernel_rfl) (fun _ _ _ h => h) (yG_val _ (by rfl) (fun w' _ => by (go_simp; try rfl))) ?_
    (try simp only [Act.put, List.getElem_toArray, List.getElem_cons_succ, List.getElem_cons_zero, List.setIfInBounds_toArray, List.set_cons_zero, List.set_cons_succ])
    refine wpGrA_take (i := 1) (.bool true) rfl (by kernel_rfl) (by kernel_rfl) (fun _ _ _ h => h) (yG_val _ (by rfl) (fun w' _ => by (go_simp; try rfl))) ?_
    (try simp only [Act.put, List.getElem_toArray, List.getElem_cons_succ, List.getElem_cons_zero, List.setIfInBounds_toArray, List.set_cons_zero, List.set_cons_succ])
    refine wpGrA_take (i := 2) (.bool true) rfl (by kernel_rfl) (by kernel_rfl) (fun _ _ _ h => h) (yG_val _ (by rfl) (fun w' _ => by (go_simp; try rfl))) ?_
    (try simp only [Act.put, List.getElem_toArray, List.getElem_cons_succ, List.getElem_cons_zero, List.setIfInBounds_toArray, List.set_cons_zero, List.set_cons_succ])
    refine wpGrA_take (i := 3) (.agg (sF s)) rfl (by kernel_rfl) (by kernel_rfl) (fun _ _ _ h => h) (yG_part (by rfl) ST (.tmp 3) rfl p1 0 rfl ST (sF s) (sF s) (0, 0) _ S7.out.cl.1 (sF_all _) Try.underlying26 rfl (infoSF _)) ?_
    (try simp only [Act.put, List.getElem_toArray, List.getElem_cons_succ, List.getElem_cons_zero, List.setIfInBounds_toArray, List.set_cons_zero, List.set_cons_succ])
    refine wpGrA_take (i := 4) (.agg (zS)) rfl (by kernel_rfl) (by kernel_rfl) (fun _ _ _ h => h) (yG_build (by rfl) ST _ rfl [] rfl _ builtS) ?_
    (try simp only [Act.put, List.getElem_toArray, List.getElem_cons_succ, List.getElem_cons_zero, List.setIfInBounds_toArray, List.set_cons_zero, List.set_cons_succ])
    refine wpGrA_take (i := 5) (.bool true) rfl (by kernel_rfl) (by kernel_rfl) (fun _ _ _ h => h) (yG_call (by rfl) (fun w' => by go_simp) (fun w' hb => KZ.out w')) ?_
    (try simp only [Act.put, List.getElem_toArray, List.getElem_cons_succ, List.getElem_cons_zero, List.setIfInBounds_toArray, List.set_cons_zero, List.set_cons_succ])
    refine wpGrA_take (i := 6) (.bool true) rfl (by kernel_rfl) (by kernel_rfl) (fun _ _ _ h => h) (yG_val _ (by rfl) (fun w' _ => by (go_simp; try rfl))) ?_
    (try simp only [Act.put, List.getElem_toArray, List.getElem_cons_succ, List.getElem_cons_zero, List.setIfInBounds_toArray, List.set_cons_zero, List.set_cons_succ])
    refine wpGrA_take (i := 7) (.bool true) rfl (by kernel_rfl) (by kernel_rfl) (fun _ _ _ h => h) (yG_val _ (by rfl) (fun w' _ => by (go_simp; try rfl))) ?_
    (try simp only [Act.put, List.getElem_toArray, List.getElem_cons_succ, List.getElem_cons_zero, List.setIfInBounds_toArray, List.set_cons_zero, List.set_cons_succ])
    refine wpGrA_take (i := 8) undef rfl (by kernel_rfl) (by kernel_rfl) (fun _ _ _ h => h) (yG_skip (by rfl)) ?_
    (try simp only [Act.put, List.getElem_toArray, List.getElem_cons_succ, List.getElem_cons_zero, List.setIfInBounds_toArray, List.set_cons_zero, List.set_cons_succ])
    refine wpGrA_take (i := 9) undef rfl (by kernel_rfl) (by kernel_rfl) (fun _ _ _ h => h) (yG_skip (by rfl)) ?_
    (try simp only [Act.put, List.getElem_toArray, List.getElem_cons_succ, List.getElem_cons_zero, List.setIfInBounds_toArray, List.set_cons_zero, List.set_cons_succ])
    refine wpGrA_take (i := 10) undef rfl (by kernel_rfl) (by kernel_rfl) (fun _ _ _ h => h) (yG_skip (by rfl)) ?_
    (try simp only [Act.put, List.getElem_toArray, List.getElem_cons_succ, List.getElem_cons_zero, List.setIfInBounds_toArray, List.set_cons_zero, List.set_cons_succ])
    refine wpGrA_take (i := 11) undef rfl (by kernel_rfl) (by kernel_rfl) (fun _ _ _ h => h) (yG_skip (by rfl)) ?_
    (try simp only [Act.put, List.getElem_toArray, List.getElem_cons_succ, List.getElem_cons_zero, List.setIfInBounds_toArray, List.set_cons_zero, List.set_cons_succ])
    refine wpGrA_take (i := 12) undef rfl (by kernel_rfl) (by kernel_rfl) (fun _ _ _ h => h) (yG_skip (by rfl)) ?_
    (try simp only [Act.put, List.getElem_toArray, List.getElem_cons_succ, List.getElem_cons_zero, List.setIfInBounds_toArray, List.set_cons_zero, List.set_cons_succ])
    refine wpGrA_take (i := 13) undef rfl (by kernel_rfl) (by kernel_rfl) (fun _ _ _ h => h) (yG_skip (by rfl)) ?_
    (try simp only [Act.put, List.getElem_toArray, List.getElem_cons_succ, List.getElem_cons_zero, List.setIfInBounds_toArray, List.set_cons_zero, List.set_cons_succ])
    refine wpGrA_take (i := 14) undef rfl (by kernel_rfl) (by kernel_rfl) (fun _ _ _ h => h) (yG_skip (by rfl)) ?_
    (try simp only [Act.put, List.getElem_toArray, List.getElem_cons_succ, List.getElem_cons_zero, List.setIfInBounds_toArray, List.set_cons_zero, List.set_cons_succ])
    refine wpGrA_take (i := 15) undef rfl (by kernel_rfl) (by kernel_rfl) (fun _ _ _ h => h) (yG_skip (by rfl)) ?_
    (try simp only [Act.put, List.getElem_toArray, List.getElem_cons_succ, List.getElem_cons_zero, List.setIfInBounds_toArray, List.set_cons_zero, List.set_cons_succ])
    refine wpGrA_take (i := 16) undef rfl (by kernel_rfl) (by kernel_rfl) (fun _ _ _ h => h) (yG_skip (by rfl)) ?_
    (try simp only [Act.put, List.getElem_toArray, List.getElem_cons_succ, List.getElem_cons_zero, List.setIfInBounds_toArray, List.set_cons_zero, List.set_cons_succ])
    refine wpGrA_take (i := 17) undef rfl (by kernel_rfl) (by kernel_rfl) (fun _ _ _ h => h) (yG_skip (by rfl)) ?_
    (try simp only [Act.put, List.getElem_toArray, List.getElem_cons_succ, List.getElem_cons_zero, List.setIfInBounds_toArray, List.set_cons_zero, List.set_cons_succ])
    refine wpGrA_take (i := 18) undef rfl (by kernel_rfl) (by kernel_rfl) (fun _ _ _ h => h) (yG_skip (by rfl)) ?_
    (try simp only [Act.put, List.getElem_toArray, List.getElem_cons_succ, List.getElem_cons_zero, List.setIfInBounds_toArray, List.set_cons_zero, List.set_cons_succ])
    refine wpGrA_take (i := 19) undef rfl (by kernel_rfl) (by kernel_rfl) (fun _ _ _ h => h) (yG_skip (by rfl)) ?_
    (try simp only [Act.put, List.getElem_toArray, List.getElem_cons_succ, List.getElem_cons_zero, List.setIfInBounds_toArray, List.set_cons_zero, List.set_cons_succ])
    refine wpGrA_take (i := 20) undef rfl (by kernel_rfl) (by kernel_rfl) (fun _ _ _ h => h) (yG_skip (by rfl)) ?_
    (try simp only [Act.put, List.getElem_toArray, List.getElem_cons_succ, List.getElem_cons_zero, List.setIfInBounds_toArray, List.set_cons_zero, List.set_cons_succ])
    refine wpGrA_take (i := 21) (.bool true) rfl (by kernel_rfl) (by kernel_rfl) (fun _ _ _ h => h) (yG_val _ (by rfl) (fun w' _ => by (go_simp; try rfl))) ?_
    (try simp only [Act.put, List.getElem_toArray, List.getElem_cons_succ, List.getElem_cons_zero, List.setIfInBounds_toArray, List.set_cons_zero, List.set_cons_succ])
    refine wpGrA_end (by kernel_rfl) ?_
    intro w8 hb
    have S8 := hid (S7.out.on hb)
    clear hb S7
    refine wpLA_here ?_
    refine wpLA_take (.bool true) (yG_val _ (by rfl) (fun w' _ => by (go_simp; try rfl))) ?_
    (try simp only [Act.put, List.getElem_toArray, List.getElem_cons_succ, List.getElem_cons_zero, List.setIfInBounds_toArray, List.set_cons_zero, List.set_cons_succ])
    refine wpLA_end ?_
    intro w9 hb
    have S9 := hid (S8.out.on hb)
    clear hb S8
    go_wp2_with fail
    go_ret
    exact ⟨rfl, S9.out.below⟩
end Go.Proofs.Ytacikkhhacladaa
