/-
  The statement ScalarTwo: the walk.
-/
import Derived.Test.YtacikkhhacladaaLaw08a
import Derived.Test.YtacikkhhacladaaSymB
import Derived.Test.YtacikkhhacladaaLowG
namespace Go.Proofs.Ytacikkhhacladaa
open Go Go.RowKit
set_option linter.unusedVariables false
set_option linter.unusedSimpArgs false

theorem wpLA_div {P : Program} {ops : Array Oper} {Q : Exit → Act → World → Prop} {o : Oper} {rest : List Oper} {a : Act} {w0 : World} {f : FuncId} {args : Array Value} (N M : Nat) (hw : Region.wanted o (yielded ops a.tmps) = true) (hr : ∀ w', (execOp a.eval o).run P w' = .ok (.enter f args) w')
    (hc : ∀ w', Below w0.heap.size w0 w' → Calls P f args w' (fun e w'' => ∃ A1 c1 A2 c2, e = .returned (.tuple #[.slice A1 (dg N).length c1, .slice A2 (dg M).length c2]) ∧ Sq w'' w''.heap.size A1 c1 (ivs (dg N)) ∧ Sq w'' w''.heap.size A2 c2 (ivs (dg M)) ∧ Below w'.heap.size w' w''))
    (h : ∀ A c A' c' w2, Below w0.heap.size w0 w2 → Sq w2 w2.heap.size A c (ivs (dg N)) → Sq w2 w2.heap.size A' c' (ivs (dg M)) → wpLA P ops Q w2 rest (a.put o.dst (.tuple #[.slice A (dg N).length c, .slice A' (dg M).length c']))) : wpLA P ops Q w0 (o :: rest) a :=
  wpLA_call (fun w' v w'' => ∃ A1 c1 A2 c2, v = .tuple #[.slice A1 (dg N).length c1, .slice A2 (dg M).length c2] ∧ Sq w'' w''.heap.size A1 c1 (ivs (dg N)) ∧ Sq w'' w''.heap.size A2 c2 (ivs (dg M)) ∧ Below w'.heap.size w' w'') hw hr (fun w' hb => (hc w' hb).mono fun e w'' ⟨A1, c1, A2, c2, he, h⟩ => ⟨_, he, A1, c1, A2, c2, rfl, h⟩)
    fun w' v w'' hb ⟨A1, c1, A2, c2, hv, hs, hs', hb2⟩ => by subst hv; exact h A1 c1 A2 c2 w'' (hb.trans (hb2.mono hb.size)) hs hs'
theorem dg17 {n : Nat} (h : n < ordL) : (dg n).length ≤ 17 := (dg_length_le n 17).2 (Nat.lt_trans h ordL_dig)
theorem mul_600 {a b : Nat} (ha : a < ordL) (hb : b < ordL) : a * b < 32768 ^ 600 :=
  Nat.lt_trans (Nat.mul_lt_mul'' (Nat.lt_trans ha ordL_dig) (Nat.lt_trans hb ordL_dig)) (by decide +kernel)
theorem add_600 {a b : Nat} (ha : a < ordL) (hb : b < ordL) : a + b < 32768 ^ 600 :=
  Nat.lt_trans (Nat.add_lt_add (Nat.lt_trans ha ordL_dig) (Nat.lt_trans hb ordL_dig)) (by decide +kernel)
theorem sub_600 (a : Nat) : ordL - a < 32768 ^ 600 :=
  Nat.lt_of_le_of_lt (Nat.sub_le _ _) (Nat.lt_trans ordL_dig (by decide +kernel))

set_option maxRecDepth 100000 in
set_option maxHeartbeats 4000000 in
theorem two8_any (A : Option Addr) (xs : List UInt8) (c : Nat) (A' : Option Addr) (ys : List UInt8) (c' : Nat) (t : Int) (w : World) (hS : Sq w w.heap.size A c (bvs xs)) (hS' : Sq w w.heap.size A' c' (bvs ys)) (ht0 : -9223372036854775808 ≤ t) (ht1 : t ≤ 9223372036854775807) :
    Calls Try.prog 3 #[.slice A xs.length c, .slice A' ys.length c', .int .i64 t] w fun e w' => e = .returned (.bool true) ∧ Below w.heap.size w w' := by
  have HS := hid hS; have HS' := hid hS'
  have HAL := hid alive8_any
  clear hS hS'
  by_cases hx : 100 < xs.length
  · have hxi : (100 : Int) < (xs.length : Int) := by omega
    clear hx ht0 ht1
    go_enter Try.func3, Try.ntmps3
    go_wp2_with fail
    refine (HAL.out _).mono ?_
    rintro e w1 ⟨rfl, hb1⟩
    go_wp2
    go_ret
    exact ⟨rfl, hb1⟩
  have hxi : ¬ (100 : Int) < (xs.length : Int) := by omega
  by_cases hy : 100 < ys.length
  · have hyi : (100 : Int) < (ys.length : Int) := by omega
    clear hy ht0 ht1
    go_enter Try.func3, Try.ntmps3
    go_wp2_with fail
    refine (HAL.out _).mono ?_
    rintro e w1 ⟨rfl, hb1⟩
    go_wp2
    go_ret
    exact ⟨rfl, hb1⟩
  have hyi : ¬ (100 : Int) < (ys.length : Int) := by omega
  have HOX := hid (fun W h => ScOf_e A xs c W h (by omega)); have HOY := hid (fun W h => ScOf_e A' ys c' W h (by omega))
  have HRX := hid (fun W h => Of8_any A xs c W h (by omega)); have HRY := hid (fun W h => Of8_any A' ys c' W h (by omega))
  obtain ⟨X, hX⟩ : ∃ X, X = ofL xs := ⟨_, rfl⟩
  obtain ⟨Y, hY⟩ : ∃ Y, Y = ofL ys := ⟨_, rfl⟩
  have hXl : X < ordL := by rw [hX]; exact ofL_lt xs
  have hYl : Y < ordL := by rw [hY]; exact ofL_lt ys
  rw [← hX] at HOX HRX
  rw [← hY] at HOY HRY
  have L : ∀ n, n % ordL < ordL := fun n => Nat.mod_lt _ ordL_pos
  have hX17 := dg17 hXl
  have hY17 := dg17 hYl
  have hO17 : (dg ordL).length ≤ 17 := (dg_length_le ordL 17).2 ordL_dig
  have Ks1 := hid (fun W => ScAdd_e X Y W hXl hYl)
  obtain ⟨s1, hs1⟩ : ∃ v, v = (X + Y) % ordL := ⟨_, rfl⟩
  have hs1l : s1 < ordL := by rw [hs1]; exact L _
  rw [← hs1] at Ks1
  have Is1 := hid (fun A c W h => Is8_any s1 A c W h hs1l)
  have Ks2 := hid (fun W => ScMul_e X Y W hXl hYl)
  obtain ⟨s2, hs2⟩ : ∃ v, v = X * Y % ordL := ⟨_, rfl⟩
  have hs2l : s2 < ordL := by rw [hs2]; exact L _
  rw [← hs2] at Ks2
  have Is2 := hid (fun A c W h => Is8_any s2 A c W h hs2l)
  have Ks3 := hid (fun W => ScNeg_e X W hXl)
  obtain ⟨s3, hs3⟩ : ∃ v, v = (ordL - X) % ordL := ⟨_, rfl⟩
  have hs3l : s3 < ordL := by rw [hs3]; exact L _
  rw [← hs3] at Ks3
  have Is3 := hid (fun A c W h => Is8_any s3 A c W h hs3l)
  have Ms1 : Hid (∀ (A : Option Addr) (c : Nat) (W : World), Sq W W.heap.size A c (ivs (dg (X + Y))) → Calls Try.prog 14 #[.slice A (dg (X + Y)).length c] W (BigR W s1)) := hid fun A c W h => by
    have := Mod8_any (X + Y) A c W h (add_600 hXl hYl)
    rwa [← hs1] at this
  have Ms2 : Hid (∀ (A : Option Addr) (c : Nat) (W : World), Sq W W.heap.size A c (ivs (dg (X * Y))) → Calls Try.prog 14 #[.slice A (dg (X * Y)).length c] W (BigR W s2)) := hid fun A c W h => by
    have := Mod8_any (X * Y) A c W h (mul_600 hXl hYl)
    rwa [← hs2] at this
  have Ms3 : Hid (∀ (A : Option Addr) (c : Nat) (W : World), Sq W W.heap.size A c (ivs (dg (ordL - X))) → Calls Try.prog 14 #[.slice A (dg (ordL - X)).length c] W (BigR W s3)) := hid fun A c W h => by
    have := Mod8_any (ordL - X) A c W h (sub_600 X)
    rwa [← hs3] at this
  have IX := hid (fun A c W h => Is8_any X A c W h hXl)
  have IY := hid (fun A c W h => Is8_any Y A c W h hYl)
  obtain ⟨sm, hsm⟩ : ∃ sm, sm = decide (X = Y) := ⟨_, rfl⟩
  have KS := hid (fun W => ScSame_e X Y W hXl hYl)
  have KR := hid (fun A A' c c' B B' W h h' => Same6_any X Y A A' c c' B B' W h h' (ordL_50 hXl) (ordL_50 hYl))
  rw [← hsm] at KS KR
  have HXO : Hid (X ≤ ordL) := hid (Nat.le_of_lt hXl)
  have HX17 := hid hX17; have HY17 := hid hY17; have HO17 := hid hO17
  have KB := hid (fun W => ScBit_e X W hXl t ht0 ht1)
  clear hX hY hsm hs1 hs2 hs3 hs1l hs2l hs3l L hx hy hX17 hY17 hO17
  by_cases hi : 0 ≤ t ∧ t < 256
  · obtain ⟨k, rfl⟩ := Int.eq_ofNat_of_zero_le hi.1
    have hk : k < 256 := by omega
    have hi1 : (0 : Int) ≤ (k : Int) := by omega
    have hi2 : (k : Int) < 256 := by omega
    obtain ⟨V, hV⟩ : ∃ V, V = X / 2 ^ k % 18446744073709551616 := ⟨_, rfl⟩
    have HLW := hid (fun A c W h => LowG_any (X / 2 ^ k) A c W.heap.size W h)
    rw [← hV] at HLW
    obtain ⟨r, hr⟩ : ∃ r, r = X / 2 ^ k % 2 := ⟨_, rfl⟩
    have hV2 : V % 2 = r := by rw [hV, hr]; omega
    have hm1 : ((V : Int)).tmod 2 = (r : Int) := by rw [Int.tmod_eq_emod_of_nonneg (by omega)]; omega
    have hm2 : (V : Int) % 2 = (r : Int) := by omega
    have hm3 : IntKind.u64.wrap (r : Int) = (r : Int) := by rw [IntKind.wrap_u64]; omega
    have hm4 : IntKind.i64.wrap (r : Int) = (r : Int) := IntWalk.i64_in _ (by omega)
    rw [if_pos hi, Int.toNat_natCast, ← hr] at KB
    have HP17 : Hid ((dg (2 ^ k)).length ≤ 1048576) := hid (Nat.le_trans ((dg_length_le (2 ^ k) 18).2 (Nat.lt_of_lt_of_le (Nat.pow_lt_pow_right (by omega) hk) (by decide +kernel))) (by decide))
    clear hV hr hV2 hi ht0 ht1 hXl hYl
    go_enter Try.func3, Try.ntmps3
    go_wp2_with fail
    refine (HAL.out _).mono ?_
    rintro e w0 ⟨rfl, hb⟩
    have S0 : Hid (St w w0 [] []) := hid ((St.start w).on hb)
    clear hb
    go_upto_region 5 with fail
    refine wpLA_start ?_
    refine wpLA_take (.slice A (xs.length) c) (yG_val _ (by rfl) (fun w' _ => by (go_simp; try rfl))) ?_
    (try simp only [Act.put, List.getElem_toArray, List.getElem_cons_succ, List.getElem_cons_zero, List.setIfInBounds_toArray, List.set_cons_zero, List.set_cons_succ])
    refine wpLA_take (.agg (sA X)) (yG_call (by rfl) (fun w' => by go_simp) (fun w' hb => HOX.out w' (HS.out.on6 ((S0.out.on hb).below)))) ?_
    (try simp only [Act.put, List.getElem_toArray, List.getElem_cons_succ, List.getElem_cons_zero, List.setIfInBounds_toArray, List.set_cons_zero, List.set_cons_succ])
    refine wpLA_take (.slice A' (ys.length) c') (yG_val _ (by rfl) (fun w' _ => by (go_simp; try rfl))) ?_
    (try simp only [Act.put, List.getElem_toArray, List.getElem_cons_succ, List.getElem_cons_zero, List.setIfInBounds_toArray, List.set_cons_zero, List.set_cons_succ])
    refine wpLA_take (.agg (sA Y)) (yG_call (by rfl) (fun w' => by go_simp) (fun w' hb => HOY.out w' (HS'.out.on6 ((S0.out.on hb).below)))) ?_
    (try simp only [Act.put, List.getElem_toArray, List.getElem_cons_succ, List.getElem_cons_zero, List.setIfInBounds_toArray, List.set_cons_zero, List.set_cons_succ])
    refine wpLA_alloc (by rfl) rfl zeroS ?_
    intro p1 w1 hp hz hb
    have S1 : Hid (St w w1 [(p1, zS, ST)] []) := hid (S0.out.alloc hb hp hz)
    clear hp hz hb S0
    (try simp only [Act.put, List.getElem_toArray, List.getElem_cons_succ, List.getElem_cons_zero, List.setIfInBounds_toArray, List.set_cons_zero, List.set_cons_succ])
    refine wpLA_alloc (by rfl) rfl zeroS ?_
    intro p2 w2 hp hz hb
    have S2 : Hid (St w w2 [(p2, zS, ST), (p1, zS, ST)] []) := hid (S1.out.alloc hb hp hz)
    clear hp hz hb S1
    (try simp only [Act.put, List.getElem_toArray, List.getElem_cons_succ, List.getElem_cons_zero, List.setIfInBounds_toArray, List.set_cons_zero, List.set_cons_succ])
    refine wpLA_store rfl ST (.tmp 7) (.tmp 25) rfl p1 (sA X) rfl rfl ST (zS) S2.out.cl.2.1 (infoSA _) rfl (oneSA _) ?_
    intro wx hb
    have S3 : Hid (St w (wx.setRow p1 (sA X)) [(p2, zS, ST), (p1, sA X, ST)] []) := hid ((S2.out.on hb).put0 1 rfl)
    clear hb S2
    generalize wx.setRow p1 (sA X) = w3 at S3 ⊢
    (try simp only [Act.put, List.getElem_toArray, List.getElem_cons_succ, List.getElem_cons_zero, List.setIfInBounds_toArray, List.set_cons_zero, List.set_cons_succ])
    refine wpLA_store rfl ST (.tmp 8) (.tmp 27) rfl p2 (sA Y) rfl rfl ST (zS) S3.out.cl.1 (infoSA _) rfl (oneSA _) ?_
    intro wx hb
    have S4 : Hid (St w (wx.setRow p2 (sA Y)) [(p2, sA Y, ST), (p1, sA X, ST)] []) := hid ((S3.out.on hb).put0 0 rfl)
    clear hb S3
    generalize wx.setRow p2 (sA Y) = w4 at S4 ⊢
    (try simp only [Act.put, List.getElem_toArray, List.getElem_cons_succ, List.getElem_cons_zero, List.setIfInBounds_toArray, List.set_cons_zero, List.set_cons_succ])
    refine wpLA_end ?_
    intro w5 hb
    have S5 := hid (S4.out.on hb)
    clear hb S4
    go_upto_region 6 with fail
    refine wpLA_start ?_
    refine wpLA_take (.slice A (xs.length) c) (yG_val _ (by rfl) (fun w' _ => by (go_simp; try rfl))) ?_
    (try simp only [Act.put, List.getElem_toArray, List.getElem_cons_succ, List.getElem_cons_zero, List.setIfInBounds_toArray, List.set_cons_zero, List.set_cons_succ])
    refine wpLA_big (X) (by rfl) (fun w' => by go_simp) (fun w' hb => HRX.out w' (HS.out.on6 ((S5.out.on hb).below))) ?_
    intro A6 c6 w6 hb hs
    have S6 : Hid (St w w6 [(p2, sA Y, ST), (p1, sA X, ST)] [(A6, c6, ivs (dg (X)))]) := hid ((S5.out.on hb).more hs)
    clear hb hs S5
    (try simp only [Act.put, List.getElem_toArray, List.getElem_cons_succ, List.getElem_cons_zero, List.setIfInBounds_toArray, List.set_cons_zero, List.set_cons_succ])
    refine wpLA_take (.slice A' (ys.length) c') (yG_val _ (by rfl) (fun w' _ => by (go_simp; try rfl))) ?_
    (try simp only [Act.put, List.getElem_toArray, List.getElem_cons_succ, List.getElem_cons_zero, List.setIfInBounds_toArray, List.set_cons_zero, List.set_cons_succ])
    refine wpLA_big (Y) (by rfl) (fun w' => by go_simp) (fun w' hb => HRY.out w' (HS'.out.on6 ((S6.out.on hb).below))) ?_
    intro A7 c7 w7 hb hs
    have S7 : Hid (St w w7 [(p2, sA Y, ST), (p1, sA X, ST)] [(A7, c7, ivs (dg (Y))), (A6, c6, ivs (dg (X)))]) := hid ((S6.out.on hb).more hs)
    clear hb hs S6
    (try simp only [Act.put, List.getElem_toArray, List.getElem_cons_succ, List.getElem_cons_zero, List.setIfInBounds_toArray, List.set_cons_zero, List.set_cons_succ])
    refine wpLA_take (.slice A6 ((dg (X)).length) c6) (yG_val _ (by rfl) (fun w' _ => by (go_simp; try rfl))) ?_
    (try simp only [Act.put, List.getElem_toArray, List.getElem_cons_succ, List.getElem_cons_zero, List.setIfInBounds_toArray, List.set_cons_zero, List.set_cons_succ])
    refine wpLA_take (.slice A7 ((dg (Y)).length) c7) (yG_val _ (by rfl) (fun w' _ => by (go_simp; try rfl))) ?_
    (try simp only [Act.put, List.getElem_toArray, List.getElem_cons_succ, List.getElem_cons_zero, List.setIfInBounds_toArray, List.set_cons_zero, List.set_cons_succ])
    refine wpLA_end ?_
    intro w8 hb
    have S8 := hid (S7.out.on hb)
    clear hb S7
    go_upto_region 9 with fail
    refine wpLA_start ?_
    refine wpLA_take (.slice A6 ((dg (X)).length) c6) (yG_val _ (by rfl) (fun w' _ => by (go_simp; try rfl))) ?_
    (try simp only [Act.put, List.getElem_toArray, List.getElem_cons_succ, List.getElem_cons_zero, List.setIfInBounds_toArray, List.set_cons_zero, List.set_cons_succ])
    refine wpLA_take (.int .i64 ((k : Int))) (yG_val _ (by rfl) (fun w' _ => by (go_simp; try rfl))) ?_
    (try simp only [Act.put, List.getElem_toArray, List.getElem_cons_succ, List.getElem_cons_zero, List.setIfInBounds_toArray, List.set_cons_zero, List.set_cons_succ])
    refine wpLA_big (2 ^ k) (by rfl) (fun w' => by go_simp) (fun w' hb => Pow_any k w' (by omega)) ?_
    intro A9 c9 w9 hb hs
    have S9 : Hid (St w w9 [(p2, sA Y, ST), (p1, sA X, ST)] [(A9, c9, ivs (dg (2 ^ k))), (A7, c7, ivs (dg (Y))), (A6, c6, ivs (dg (X)))]) := hid ((S8.out.on hb).more hs)
    clear hb hs S8
    (try simp only [Act.put, List.getElem_toArray, List.getElem_cons_succ, List.getElem_cons_zero, List.setIfInBounds_toArray, List.set_cons_zero, List.set_cons_succ])
    refine wpLA_div (X / 2 ^ k) (X % 2 ^ k) (by rfl) (fun w' => by go_simp) (fun w' hb => Div_any X (2 ^ k) _ _ _ _ w' (S9.out.on hb).sq.2.2.1 (S9.out.on hb).sq.1 (Nat.le_trans HX17.out (by decide)) HP17.out (Nat.pow_pos (by omega))) ?_
    intro A10 c10 B10 d10 w10 hb hs hs2
    have S10 : Hid (St w w10 [(p2, sA Y, ST), (p1, sA X, ST)] [(A10, c10, ivs (dg (X / 2 ^ k))), (B10, d10, ivs (dg (X % 2 ^ k))), (A9, c9, ivs (dg (2 ^ k))), (A7, c7, ivs (dg (Y))), (A6, c6, ivs (dg (X)))]) := hid (((S9.out.on hb).more hs2).more hs)
    clear hb hs hs2 S9
    (try simp only [Act.put, List.getElem_toArray, List.getElem_cons_succ, List.getElem_cons_zero, List.setIfInBounds_toArray, List.set_cons_zero, List.set_cons_succ])
    refine wpLA_take (.tuple #[(.slice A10 ((dg (X / 2 ^ k)).length) c10), (.slice B10 ((dg (X % 2 ^ k)).length) d10)]) (yG_val _ (by rfl) (fun w' _ => by (go_simp; try rfl))) ?_
    (try simp only [Act.put, List.getElem_toArray, List.getElem_cons_succ, List.getElem_cons_zero, List.setIfInBounds_toArray, List.set_cons_zero, List.set_cons_succ])
    refine wpLA_take (.slice A10 ((dg (X / 2 ^ k)).length) c10) (yG_val _ (by rfl) (fun w' _ => by (go_simp; try rfl))) ?_
    (try simp only [Act.put, List.getElem_toArray, List.getElem_cons_succ, List.getElem_cons_zero, List.setIfInBounds_toArray, List.set_cons_zero, List.set_cons_succ])
    refine wpLA_take (.slice B10 ((dg (X % 2 ^ k)).length) d10) (yG_val _ (by rfl) (fun w' _ => by (go_simp; try rfl))) ?_
    (try simp only [Act.put, List.getElem_toArray, List.getElem_cons_succ, List.getElem_cons_zero, List.setIfInBounds_toArray, List.set_cons_zero, List.set_cons_succ])
    refine wpLA_take (.slice A10 ((dg (X / 2 ^ k)).length) c10) (yG_val _ (by rfl) (fun w' _ => by (go_simp; try rfl))) ?_
    (try simp only [Act.put, List.getElem_toArray, List.getElem_cons_succ, List.getElem_cons_zero, List.setIfInBounds_toArray, List.set_cons_zero, List.set_cons_succ])
    refine wpLA_take (.slice B10 ((dg (X % 2 ^ k)).length) d10) (yG_val _ (by rfl) (fun w' _ => by (go_simp; try rfl))) ?_
    (try simp only [Act.put, List.getElem_toArray, List.getElem_cons_succ, List.getElem_cons_zero, List.setIfInBounds_toArray, List.set_cons_zero, List.set_cons_succ])
    refine wpLA_end ?_
    intro w11 hb
    have S11 := hid (S10.out.on hb)
    clear hb S10
    go_upto_region 10 with fail
    refine wpLA_start ?_
    refine wpLA_take (.slice A10 ((dg (X / 2 ^ k)).length) c10) (yG_val _ (by rfl) (fun w' _ => by (go_simp; try rfl))) ?_
    (try simp only [Act.put, List.getElem_toArray, List.getElem_cons_succ, List.getElem_cons_zero, List.setIfInBounds_toArray, List.set_cons_zero, List.set_cons_succ])
    refine wpLA_take (.int .u64 ((V : Nat))) (yG_call (by rfl) (fun w' => by go_simp) (fun w' hb => calls_same (HLW.out _ _ w' (S11.out.on hb).sq.1))) ?_
    (try simp only [Act.put, List.getElem_toArray, List.getElem_cons_succ, List.getElem_cons_zero, List.setIfInBounds_toArray, List.set_cons_zero, List.set_cons_succ])
    refine wpLA_take (.int .u64 ((r : Nat))) (yG_val _ (by rfl) (fun w' _ => by (go_simp; try simp only [hm1, hm2, hm3]))) ?_
    (try simp only [Act.put, List.getElem_toArray, List.getElem_cons_succ, List.getElem_cons_zero, List.setIfInBounds_toArray, List.set_cons_zero, List.set_cons_succ])
    refine wpLA_take (.int .i64 ((r : Nat))) (yG_val _ (by rfl) (fun w' _ => by (go_simp; try simp only [hm4]))) ?_
    (try simp only [Act.put, List.getElem_toArray, List.getElem_cons_succ, List.getElem_cons_zero, List.setIfInBounds_toArray, List.set_cons_zero, List.set_cons_succ])
    refine wpLA_take (.int .i64 ((r : Nat))) (yG_val _ (by rfl) (fun w' _ => by (go_simp; try rfl))) ?_
    (try simp only [Act.put, List.getElem_toArray, List.getElem_cons_succ, List.getElem_cons_zero, List.setIfInBounds_toArray, List.set_cons_zero, List.set_cons_succ])
    refine wpLA_end ?_
    intro w12 hb
    have S12 := hid (S11.out.on hb)
    clear hb S11
    go_upto_region 11 with fail
    refine wpLA_start ?_
    refine wpLA_take (.agg (sA X)) (yG_part (by rfl) ST (.tmp 7) rfl p1 0 rfl ST (sA X) (sA X) (0, 0) _ S12.out.cl.2.1 (sA_all _) Try.underlying26 rfl (infoSA _)) ?_
    (try simp only [Act.put, List.getElem_toArray, List.getElem_cons_succ, List.getElem_cons_zero, List.setIfInBounds_toArray, List.set_cons_zero, List.set_cons_succ])
    refine wpLA_take (.slice A6 ((dg (X)).length) c6) (yG_val _ (by rfl) (fun w' _ => by (go_simp; try rfl))) ?_
    (try simp only [Act.put, List.getElem_toArray, List.getElem_cons_succ, List.getElem_cons_zero, List.setIfInBounds_toArray, List.set_cons_zero, List.set_cons_succ])
    refine wpLA_take (.bool true) (yG_call (by rfl) (fun w' => by go_simp) (fun w' hb => IX.out A6 c6 w' (S12.out.on hb).sq.2.2.2.2.1)) ?_
    (try simp only [Act.put, List.getElem_toArray, List.getElem_cons_succ, List.getElem_cons_zero, List.setIfInBounds_toArray, List.set_cons_zero, List.set_cons_succ])
    refine wpLA_take (.bool true) (yG_val _ (by rfl) (fun w' _ => by (go_simp; try rfl))) ?_
    (try simp only [Act.put, List.getElem_toArray, List.getElem_cons_succ, List.getElem_cons_zero, List.setIfInBounds_toArray, List.set_cons_zero, List.set_cons_succ])
    refine wpLA_take (.agg (sA Y)) (yG_part (by rfl) ST (.tmp 8) rfl p2 0 rfl ST (sA Y) (sA Y) (0, 0) _ S12.out.cl.1 (sA_all _) Try.underlying26 rfl (infoSA _)) ?_
    (try simp only [Act.put, List.getElem_toArray, List.getElem_cons_succ, List.getElem_cons_zero, List.setIfInBounds_toArray, List.set_cons_zero, List.set_cons_succ])
    refine wpLA_take (.slice A7 ((dg (Y)).length) c7) (yG_val _ (by rfl) (fun w' _ => by (go_simp; try rfl))) ?_
    (try simp only [Act.put, List.getElem_toArray, List.getElem_cons_succ, List.getElem_cons_zero, List.setIfInBounds_toArray, List.set_cons_zero, List.set_cons_succ])
    refine wpLA_take (.bool true) (yG_call (by rfl) (fun w' => by go_simp) (fun w' hb => IY.out A7 c7 w' (S12.out.on hb).sq.2.2.2.1)) ?_
    (try simp only [Act.put, List.getElem_toArray, List.getElem_cons_succ, List.getElem_cons_zero, List.setIfInBounds_toArray, List.set_cons_zero, List.set_cons_succ])
    refine wpLA_take (.bool true) (yG_val _ (by rfl) (fun w' _ => by (go_simp; try rfl))) ?_
    (try simp only [Act.put, List.getElem_toArray, List.getElem_cons_succ, List.getElem_cons_zero, List.setIfInBounds_toArray, List.set_cons_zero, List.set_cons_succ])
    refine wpLA_take (.bool true) (yG_val _ (by rfl) (fun w' _ => by (go_simp; try rfl))) ?_
    (try simp only [Act.put, List.getElem_toArray, List.getElem_cons_succ, List.getElem_cons_zero, List.setIfInBounds_toArray, List.set_cons_zero, List.set_cons_succ])
    refine wpLA_take (.agg (sA X)) (yG_part (by rfl) ST (.tmp 7) rfl p1 0 rfl ST (sA X) (sA X) (0, 0) _ S12.out.cl.2.1 (sA_all _) Try.underlying26 rfl (infoSA _)) ?_
    (try simp only [Act.put, List.getElem_toArray, List.getElem_cons_succ, List.getElem_cons_zero, List.setIfInBounds_toArray, List.set_cons_zero, List.set_cons_succ])
    refine wpLA_take (.agg (sA Y)) (yG_part (by rfl) ST (.tmp 8) rfl p2 0 rfl ST (sA Y) (sA Y) (0, 0) _ S12.out.cl.1 (sA_all _) Try.underlying26 rfl (infoSA _)) ?_
    (try simp only [Act.put, List.getElem_toArray, List.getElem_cons_succ, List.getElem_cons_zero, List.setIfInBounds_toArray, List.set_cons_zero, List.set_cons_succ])
    refine wpLA_take (.agg (sA s1)) (yG_call (by rfl) (fun w' => by go_simp) (fun w' hb => Ks1.out w')) ?_
    (try simp only [Act.put, List.getElem_toArray, List.getElem_cons_succ, List.getElem_cons_zero, List.setIfInBounds_toArray, List.set_cons_zero, List.set_cons_succ])
    refine wpLA_take (.slice A6 ((dg (X)).length) c6) (yG_val _ (by rfl) (fun w' _ => by (go_simp; try rfl))) ?_
    (try simp only [Act.put, List.getElem_toArray, List.getElem_cons_succ, List.getElem_cons_zero, List.setIfInBounds_toArray, List.set_cons_zero, List.set_cons_succ])
    refine wpLA_take (.slice A7 ((dg (Y)).length) c7) (yG_val _ (by rfl) (fun w' _ => by (go_simp; try rfl))) ?_
    (try simp only [Act.put, List.getElem_toArray, List.getElem_cons_succ, List.getElem_cons_zero, List.setIfInBounds_toArray, List.set_cons_zero, List.set_cons_succ])
    refine wpLA_big (X + Y) (by rfl) (fun w' => by go_simp) (fun w' hb => Add_any X Y _ _ _ _ w' (S12.out.on hb).sq.2.2.2.2.1 (S12.out.on hb).sq.2.2.2.1 (Nat.le_trans HX17.out (by decide)) (Nat.le_trans HY17.out (by decide))) ?_
    intro A13 c13 w13 hb hs
    have S13 : Hid (St w w13 [(p2, sA Y, ST), (p1, sA X, ST)] [(A13, c13, ivs (dg (X + Y))), (A10, c10, ivs (dg (X / 2 ^ k))), (B10, d10, ivs (dg (X % 2 ^ k))), (A9, c9, ivs (dg (2 ^ k))), (A7, c7, ivs (dg (Y))), (A6, c6, ivs (dg (X)))]) := hid ((S12.out.on hb).more hs)
    clear hb hs S12
    (try simp only [Act.put, List.getElem_toArray, List.getElem_cons_succ, List.getElem_cons_zero, List.setIfInBounds_toArray, List.set_cons_zero, List.set_cons_succ])
    refine wpLA_big (s1) (by rfl) (fun w' => by go_simp) (fun w' hb => Ms1.out _ _ w' (S13.out.on hb).sq.1) ?_
    intro A14 c14 w14 hb hs
    have S14 : Hid (St w w14 [(p2, sA Y, ST), (p1, sA X, ST)] [(A14, c14, ivs (dg (s1))), (A13, c13, ivs (dg (X + Y))), (A10, c10, ivs (dg (X / 2 ^ k))), (B10, d10, ivs (dg (X % 2 ^ k))), (A9, c9, ivs (dg (2 ^ k))), (A7, c7, ivs (dg (Y))), (A6, c6, ivs (dg (X)))]) := hid ((S13.out.on hb).more hs)
    clear hb hs S13
    (try simp only [Act.put, List.getElem_toArray, List.getElem_cons_succ, List.getElem_cons_zero, List.setIfInBounds_toArray, List.set_cons_zero, List.set_cons_succ])
    refine wpLA_take (.bool true) (yG_call (by rfl) (fun w' => by go_simp) (fun w' hb => Is1.out A14 c14 w' (S14.out.on hb).sq.1)) ?_
    (try simp only [Act.put, List.getElem_toArray, List.getElem_cons_succ, List.getElem_cons_zero, List.setIfInBounds_toArray, List.set_cons_zero, List.set_cons_succ])
    refine wpLA_take (.bool true) (yG_val _ (by rfl) (fun w' _ => by (go_simp; try rfl))) ?_
    (try simp only [Act.put, List.getElem_toArray, List.getElem_cons_succ, List.getElem_cons_zero, List.setIfInBounds_toArray, List.set_cons_zero, List.set_cons_succ])
    refine wpLA_take (.bool true) (yG_val _ (by rfl) (fun w' _ => by (go_simp; try rfl))) ?_
    (try simp only [Act.put, List.getElem_toArray, List.getElem_cons_succ, List.getElem_cons_zero, List.setIfInBounds_toArray, List.set_cons_zero, List.set_cons_succ])
    refine wpLA_take (.agg (sA X)) (yG_part (by rfl) ST (.tmp 7) rfl p1 0 rfl ST (sA X) (sA X) (0, 0) _ S14.out.cl.2.1 (sA_all _) Try.underlying26 rfl (infoSA _)) ?_
    (try simp only [Act.put, List.getElem_toArray, List.getElem_cons_succ, List.getElem_cons_zero, List.setIfInBounds_toArray, List.set_cons_zero, List.set_cons_succ])
    refine wpLA_take (.agg (sA Y)) (yG_part (by rfl) ST (.tmp 8) rfl p2 0 rfl ST (sA Y) (sA Y) (0, 0) _ S14.out.cl.1 (sA_all _) Try.underlying26 rfl (infoSA _)) ?_
    (try simp only [Act.put, List.getElem_toArray, List.getElem_cons_succ, List.getElem_cons_zero, List.setIfInBounds_toArray, List.set_cons_zero, List.set_cons_succ])
    refine wpLA_take (.agg (sA s2)) (yG_call (by rfl) (fun w' => by go_simp) (fun w' hb => Ks2.out w')) ?_
    (try simp only [Act.put, List.getElem_toArray, List.getElem_cons_succ, List.getElem_cons_zero, List.setIfInBounds_toArray, List.set_cons_zero, List.set_cons_succ])
    refine wpLA_take (.slice A6 ((dg (X)).length) c6) (yG_val _ (by rfl) (fun w' _ => by (go_simp; try rfl))) ?_
    (try simp only [Act.put, List.getElem_toArray, List.getElem_cons_succ, List.getElem_cons_zero, List.setIfInBounds_toArray, List.set_cons_zero, List.set_cons_succ])
    refine wpLA_take (.slice A7 ((dg (Y)).length) c7) (yG_val _ (by rfl) (fun w' _ => by (go_simp; try rfl))) ?_
    (try simp only [Act.put, List.getElem_toArray, List.getElem_cons_succ, List.getElem_cons_zero, List.setIfInBounds_toArray, List.set_cons_zero, List.set_cons_succ])
    refine wpLA_big (X * Y) (by rfl) (fun w' => by go_simp) (fun w' hb => Mul_any X Y _ _ _ _ w' (S14.out.on hb).sq.2.2.2.2.2.2.1 (S14.out.on hb).sq.2.2.2.2.2.1 (Nat.le_trans HX17.out (by decide)) (Nat.le_trans HY17.out (by decide))) ?_
    intro A15 c15 w15 hb hs
    have S15 : Hid (St w w15 [(p2, sA Y, ST), (p1, sA X, ST)] [(A15, c15, ivs (dg (X * Y))), (A14, c14, ivs (dg (s1))), (A13, c13, ivs (dg (X + Y))), (A10, c10, ivs (dg (X / 2 ^ k))), (B10, d10, ivs (dg (X % 2 ^ k))), (A9, c9, ivs (dg (2 ^ k))), (A7, c7, ivs (dg (Y))), (A6, c6, ivs (dg (X)))]) := hid ((S14.out.on hb).more hs)
    clear hb hs S14
    (try simp only [Act.put, List.getElem_toArray, List.getElem_cons_succ, List.getElem_cons_zero, List.setIfInBounds_toArray, List.set_cons_zero, List.set_cons_succ])
    refine wpLA_big (s2) (by rfl) (fun w' => by go_simp) (fun w' hb => Ms2.out _ _ w' (S15.out.on hb).sq.1) ?_
    intro A16 c16 w16 hb hs
    have S16 : Hid (St w w16 [(p2, sA Y, ST), (p1, sA X, ST)] [(A16, c16, ivs (dg (s2))), (A15, c15, ivs (dg (X * Y))), (A14, c14, ivs (dg (s1))), (A13, c13, ivs (dg (X + Y))), (A10, c10, ivs (dg (X / 2 ^ k))), (B10, d10, ivs (dg (X % 2 ^ k))), (A9, c9, ivs (dg (2 ^ k))), (A7, c7, ivs (dg (Y))), (A6, c6, ivs (dg (X)))]) := hid ((S15.out.on hb).more hs)
    clear hb hs S15
    (try simp only [Act.put, List.getElem_toArray, List.getElem_cons_succ, List.getElem_cons_zero, List.setIfInBounds_toArray, List.set_cons_zero, List.set_cons_succ])
    refine wpLA_take (.bool true) (yG_call (by rfl) (fun w' => by go_simp) (fun w' hb => Is2.out A16 c16 w' (S16.out.on hb).sq.1)) ?_
    (try simp only [Act.put, List.getElem_toArray, List.getElem_cons_succ, List.getElem_cons_zero, List.setIfInBounds_toArray, List.set_cons_zero, List.set_cons_succ])
    refine wpLA_take (.bool true) (yG_val _ (by rfl) (fun w' _ => by (go_simp; try rfl))) ?_
    (try simp only [Act.put, List.getElem_toArray, List.getElem_cons_succ, List.getElem_cons_zero, List.setIfInBounds_toArray, List.set_cons_zero, List.set_cons_succ])
    refine wpLA_take (.bool true) (yG_val _ (by rfl) (fun w' _ => by (go_simp; try rfl))) ?_
    (try simp only [Act.put, List.getElem_toArray, List.getElem_cons_succ, List.getElem_cons_zero, List.setIfInBounds_toArray, List.set_cons_zero, List.set_cons_succ])
    refine wpLA_take (.agg (sA X)) (yG_part (by rfl) ST (.tmp 7) rfl p1 0 rfl ST (sA X) (sA X) (0, 0) _ S16.out.cl.2.1 (sA_all _) Try.underlying26 rfl (infoSA _)) ?_
    (try simp only [Act.put, List.getElem_toArray, List.getElem_cons_succ, List.getElem_cons_zero, List.setIfInBounds_toArray, List.set_cons_zero, List.set_cons_succ])
    refine wpLA_take (.agg (sA s3)) (yG_call (by rfl) (fun w' => by go_simp) (fun w' hb => Ks3.out w')) ?_
    (try simp only [Act.put, List.getElem_toArray, List.getElem_cons_succ, List.getElem_cons_zero, List.setIfInBounds_toArray, List.set_cons_zero, List.set_cons_succ])
    refine wpLA_big (ordL) (by rfl) (fun w' => by go_simp) (fun w' hb => Order_any w') ?_
    intro A17 c17 w17 hb hs
    have S17 : Hid (St w w17 [(p2, sA Y, ST), (p1, sA X, ST)] [(A17, c17, ivs (dg (ordL))), (A16, c16, ivs (dg (s2))), (A15, c15, ivs (dg (X * Y))), (A14, c14, ivs (dg (s1))), (A13, c13, ivs (dg (X + Y))), (A10, c10, ivs (dg (X / 2 ^ k))), (B10, d10, ivs (dg (X % 2 ^ k))), (A9, c9, ivs (dg (2 ^ k))), (A7, c7, ivs (dg (Y))), (A6, c6, ivs (dg (X)))]) := hid ((S16.out.on hb).more hs)
    clear hb hs S16
    (try simp only [Act.put, List.getElem_toArray, List.getElem_cons_succ, List.getElem_cons_zero, List.setIfInBounds_toArray, List.set_cons_zero, List.set_cons_succ])
    refine wpLA_take (.slice A6 ((dg (X)).length) c6) (yG_val _ (by rfl) (fun w' _ => by (go_simp; try rfl))) ?_
    (try simp only [Act.put, List.getElem_toArray, List.getElem_cons_succ, List.getElem_cons_zero, List.setIfInBounds_toArray, List.set_cons_zero, List.set_cons_succ])
    refine wpLA_big (ordL - X) (by rfl) (fun w' => by go_simp) (fun w' hb => Sub_any ordL X _ _ _ _ w' (S17.out.on hb).sq.1 (S17.out.on hb).sq.2.2.2.2.2.2.2.2.2.1 (Nat.le_trans HO17.out (by decide)) HXO.out) ?_
    intro A18 c18 w18 hb hs
    have S18 : Hid (St w w18 [(p2, sA Y, ST), (p1, sA X, ST)] [(A18, c18, ivs (dg (ordL - X))), (A17, c17, ivs (dg (ordL))), (A16, c16, ivs (dg (s2))), (A15, c15, ivs (dg (X * Y))), (A14, c14, ivs (dg (s1))), (A13, c13, ivs (dg (X + Y))), (A10, c10, ivs (dg (X / 2 ^ k))), (B10, d10, ivs (dg (X % 2 ^ k))), (A9, c9, ivs (dg (2 ^ k))), (A7, c7, ivs (dg (Y))), (A6, c6, ivs (dg (X)))]) := hid ((S17.out.on hb).more hs)
    clear hb hs S17
    (try simp only [Act.put, List.getElem_toArray, List.getElem_cons_succ, List.getElem_cons_zero, List.setIfInBounds_toArray, List.set_cons_zero, List.set_cons_succ])
    refine wpLA_big (s3) (by rfl) (fun w' => by go_simp) (fun w' hb => Ms3.out _ _ w' (S18.out.on hb).sq.1) ?_
    intro A19 c19 w19 hb hs
    have S19 : Hid (St w w19 [(p2, sA Y, ST), (p1, sA X, ST)] [(A19, c19, ivs (dg (s3))), (A18, c18, ivs (dg (ordL - X))), (A17, c17, ivs (dg (ordL))), (A16, c16, ivs (dg (s2))), (A15, c15, ivs (dg (X * Y))), (A14, c14, ivs (dg (s1))), (A13, c13, ivs (dg (X + Y))), (A10, c10, ivs (dg (X / 2 ^ k))), (B10, d10, ivs (dg (X % 2 ^ k))), (A9, c9, ivs (dg (2 ^ k))), (A7, c7, ivs (dg (Y))), (A6, c6, ivs (dg (X)))]) := hid ((S18.out.on hb).more hs)
    clear hb hs S18
    (try simp only [Act.put, List.getElem_toArray, List.getElem_cons_succ, List.getElem_cons_zero, List.setIfInBounds_toArray, List.set_cons_zero, List.set_cons_succ])
    refine wpLA_take (.bool true) (yG_call (by rfl) (fun w' => by go_simp) (fun w' hb => Is3.out A19 c19 w' (S19.out.on hb).sq.1)) ?_
    (try simp only [Act.put, List.getElem_toArray, List.getElem_cons_succ, List.getElem_cons_zero, List.setIfInBounds_toArray, List.set_cons_zero, List.set_cons_succ])
    refine wpLA_take (.bool true) (yG_val _ (by rfl) (fun w' _ => by (go_simp; try rfl))) ?_
    (try simp only [Act.put, List.getElem_toArray, List.getElem_cons_succ, List.getElem_cons_zero, List.setIfInBounds_toArray, List.set_cons_zero, List.set_cons_succ])
    refine wpLA_take (.bool true) (yG_val _ (by rfl) (fun w' _ => by (go_simp; try rfl))) ?_
    (try simp only [Act.put, List.getElem_toArray, List.getElem_cons_succ, List.getElem_cons_zero, List.setIfInBounds_toArray, List.set_cons_zero, List.set_cons_succ])
    refine wpLA_take (.agg (sA X)) (yG_part (by rfl) ST (.tmp 7) rfl p1 0 rfl ST (sA X) (sA X) (0, 0) _ S19.out.cl.2.1 (sA_all _) Try.underlying26 rfl (infoSA _)) ?_
    (try simp only [Act.put, List.getElem_toArray, List.getElem_cons_succ, List.getElem_cons_zero, List.setIfInBounds_toArray, List.set_cons_zero, List.set_cons_succ])
    refine wpLA_take (.int .i64 ((k : Int))) (yG_val _ (by rfl) (fun w' _ => by (go_simp; try rfl))) ?_
    (try simp only [Act.put, List.getElem_toArray, List.getElem_cons_succ, List.getElem_cons_zero, List.setIfInBounds_toArray, List.set_cons_zero, List.set_cons_succ])
    refine wpLA_take (.int .i64 ((r : Nat))) (yG_call (by rfl) (fun w' => by go_simp) (fun w' hb => KB.out w')) ?_
    (try simp only [Act.put, List.getElem_toArray, List.getElem_cons_succ, List.getElem_cons_zero, List.setIfInBounds_toArray, List.set_cons_zero, List.set_cons_succ])
    refine wpLA_take (.int .i64 ((r : Nat))) (yG_val _ (by rfl) (fun w' _ => by (go_simp; try rfl))) ?_
    (try simp only [Act.put, List.getElem_toArray, List.getElem_cons_succ, List.getElem_cons_zero, List.setIfInBounds_toArray, List.set_cons_zero, List.set_cons_succ])
    refine wpLA_take (.bool true) (yG_val _ (by rfl) (fun w' _ => by (go_simp; try rfl))) ?_
    (try simp only [Act.put, List.getElem_toArray, List.getElem_cons_succ, List.getElem_cons_zero, List.setIfInBounds_toArray, List.set_cons_zero, List.set_cons_succ])
    refine wpLA_take (.bool true) (yG_val _ (by rfl) (fun w' _ => by (go_simp; try rfl))) ?_
    (try simp only [Act.put, List.getElem_toArray, List.getElem_cons_succ, List.getElem_cons_zero, List.setIfInBounds_toArray, List.set_cons_zero, List.set_cons_succ])
    refine wpLA_take (.bool true) (yG_val _ (by rfl) (fun w' _ => by (go_simp; try rfl))) ?_
    (try simp only [Act.put, List.getElem_toArray, List.getElem_cons_succ, List.getElem_cons_zero, List.setIfInBounds_toArray, List.set_cons_zero, List.set_cons_succ])
    refine wpLA_take (.agg (sA X)) (yG_part (by rfl) ST (.tmp 7) rfl p1 0 rfl ST (sA X) (sA X) (0, 0) _ S19.out.cl.2.1 (sA_all _) Try.underlying26 rfl (infoSA _)) ?_
    (try simp only [Act.put, List.getElem_toArray, List.getElem_cons_succ, List.getElem_cons_zero, List.setIfInBounds_toArray, List.set_cons_zero, List.set_cons_succ])
    refine wpLA_take (.agg (sA Y)) (yG_part (by rfl) ST (.tmp 8) rfl p2 0 rfl ST (sA Y) (sA Y) (0, 0) _ S19.out.cl.1 (sA_all _) Try.underlying26 rfl (infoSA _)) ?_
    (try simp only [Act.put, List.getElem_toArray, List.getElem_cons_succ, List.getElem_cons_zero, List.setIfInBounds_toArray, List.set_cons_zero, List.set_cons_succ])
    refine wpLA_take (.bool sm) (yG_call (by rfl) (fun w' => by go_simp) (fun w' hb => KS.out w')) ?_
    (try simp only [Act.put, List.getElem_toArray, List.getElem_cons_succ, List.getElem_cons_zero, List.setIfInBounds_toArray, List.set_cons_zero, List.set_cons_succ])
    refine wpLA_take (.slice A6 ((dg (X)).length) c6) (yG_val _ (by rfl) (fun w' _ => by (go_simp; try rfl))) ?_
    (try simp only [Act.put, List.getElem_toArray, List.getElem_cons_succ, List.getElem_cons_zero, List.setIfInBounds_toArray, List.set_cons_zero, List.set_cons_succ])
    refine wpLA_take (.slice A7 ((dg (Y)).length) c7) (yG_val _ (by rfl) (fun w' _ => by (go_simp; try rfl))) ?_
    (try simp only [Act.put, List.getElem_toArray, List.getElem_cons_succ, List.getElem_cons_zero, List.setIfInBounds_toArray, List.set_cons_zero, List.set_cons_succ])
    refine wpLA_take (.bool sm) (yG_call (by rfl) (fun w' => by go_simp) (fun w' hb => calls_drew (KR.out _ _ _ _ _ _ w' (S19.out.on hb).sq.2.2.2.2.2.2.2.2.2.2.2.1 (S19.out.on hb).sq.2.2.2.2.2.2.2.2.2.2.1))) ?_
    (try simp only [Act.put, List.getElem_toArray, List.getElem_cons_succ, List.getElem_cons_zero, List.setIfInBounds_toArray, List.set_cons_zero, List.set_cons_succ])
    refine wpLA_take (.bool true) (yG_val _ (by rfl) (fun w' _ => by (go_simp; try rfl))) ?_
    (try simp only [Act.put, List.getElem_toArray, List.getElem_cons_succ, List.getElem_cons_zero, List.setIfInBounds_toArray, List.set_cons_zero, List.set_cons_succ])
    refine wpLA_take (.bool true) (yG_val _ (by rfl) (fun w' _ => by (go_simp; try rfl))) ?_
    (try simp only [Act.put, List.getElem_toArray, List.getElem_cons_succ, List.getElem_cons_zero, List.setIfInBounds_toArray, List.set_cons_zero, List.set_cons_succ])
    refine wpLA_take (.bool true) (yG_val _ (by rfl) (fun w' _ => by (go_simp; try rfl))) ?_
    (try simp only [Act.put, List.getElem_toArray, List.getElem_cons_succ, List.getElem_cons_zero, List.setIfInBounds_toArray, List.set_cons_zero, List.set_cons_succ])
    refine wpLA_end ?_
    intro w20 hb
    have S20 := hid (S19.out.on hb)
    clear hb S19
    go_wp2_with fail
    go_ret
    exact ⟨rfl, S20.out.below⟩
  rw [if_neg hi] at KB
  by_cases hn : t < 0
  · have hi1 : ¬ (0 : Int) ≤ t := by omega
    clear hi ht0 ht1 hXl hYl hn
    go_enter Try.func3, Try.ntmps3
    go_wp2_with fail
    refine (HAL.out _).mono ?_
    rintro e w0 ⟨rfl, hb⟩
    have S0 : Hid (St w w0 [] []) := hid ((St.start w).on hb)
    clear hb
    go_upto_region 5 with fail
    refine wpLA_start ?_
    refine wpLA_take (.slice A (xs.length) c) (yG_val _ (by rfl) (fun w' _ => by (go_simp; try rfl))) ?_
    (try simp only [Act.put, List.getElem_toArray, List.getElem_cons_succ, List.getElem_cons_zero, List.setIfInBounds_toArray, List.set_cons_zero, List.set_cons_succ])
    refine wpLA_take (.agg (sA X)) (yG_call (by rfl) (fun w' => by go_simp) (fun w' hb => HOX.out w' (HS.out.on6 ((S0.out.on hb).below)))) ?_
    (try simp only [Act.put, List.getElem_toArray, List.getElem_cons_succ, List.getElem_cons_zero, List.setIfInBounds_toArray, List.set_cons_zero, List.set_cons_succ])
    refine wpLA_take (.slice A' (ys.length) c') (yG_val _ (by rfl) (fun w' _ => by (go_simp; try rfl))) ?_
    (try simp only [Act.put, List.getElem_toArray, List.getElem_cons_succ, List.getElem_cons_zero, List.setIfInBounds_toArray, List.set_cons_zero, List.set_cons_succ])
    refine wpLA_take (.agg (sA Y)) (yG_call (by rfl) (fun w' => by go_simp) (fun w' hb => HOY.out w' (HS'.out.on6 ((S0.out.on hb).below)))) ?_
    (try simp only [Act.put, List.getElem_toArray, List.getElem_cons_succ, List.getElem_cons_zero, List.setIfInBounds_toArray, List.set_cons_zero, List.set_cons_succ])
    refine wpLA_alloc (by rfl) rfl zeroS ?_
    intro p1 w1 hp hz hb
    have S1 : Hid (St w w1 [(p1, zS, ST)] []) := hid (S0.out.alloc hb hp hz)
    clear hp hz hb S0
    (try simp only [Act.put, List.getElem_toArray, List.getElem_cons_succ, List.getElem_cons_zero, List.setIfInBounds_toArray, List.set_cons_zero, List.set_cons_succ])
    refine wpLA_alloc (by rfl) rfl zeroS ?_
    intro p2 w2 hp hz hb
    have S2 : Hid (St w w2 [(p2, zS, ST), (p1, zS, ST)] []) := hid (S1.out.alloc hb hp hz)
    clear hp hz hb S1
    (try simp only [Act.put, List.getElem_toArray, List.getElem_cons_succ, List.getElem_cons_zero, List.setIfInBounds_toArray, List.set_cons_zero, List.set_cons_succ])
    refine wpLA_store rfl ST (.tmp 7) (.tmp 25) rfl p1 (sA X) rfl rfl ST (zS) S2.out.cl.2.1 (infoSA _) rfl (oneSA _) ?_
    intro wx hb
    have S3 : Hid (St w (wx.setRow p1 (sA X)) [(p2, zS, ST), (p1, sA X, ST)] []) := hid ((S2.out.on hb).put0 1 rfl)
    clear hb S2
    generalize wx.setRow p1 (sA X) = w3 at S3 ⊢
    (try simp only [Act.put, List.getElem_toArray, List.getElem_cons_succ, List.getElem_cons_zero, List.setIfInBounds_toArray, List.set_cons_zero, List.set_cons_succ])
    refine wpLA_store rfl ST (.tmp 8) (.tmp 27) rfl p2 (sA Y) rfl rfl ST (zS) S3.out.cl.1 (infoSA _) rfl (oneSA _) ?_
    intro wx hb
    have S4 : Hid (St w (wx.setRow p2 (sA Y)) [(p2, sA Y, ST), (p1, sA X, ST)] []) := hid ((S3.out.on hb).put0 0 rfl)
    clear hb S3
    generalize wx.setRow p2 (sA Y) = w4 at S4 ⊢
    (try simp only [Act.put, List.getElem_toArray, List.getElem_cons_succ, List.getElem_cons_zero, List.setIfInBounds_toArray, List.set_cons_zero, List.set_cons_succ])
    refine wpLA_end ?_
    intro w5 hb
    have S5 := hid (S4.out.on hb)
    clear hb S4
    go_upto_region 6 with fail
    refine wpLA_start ?_
    refine wpLA_take (.slice A (xs.length) c) (yG_val _ (by rfl) (fun w' _ => by (go_simp; try rfl))) ?_
    (try simp only [Act.put, List.getElem_toArray, List.getElem_cons_succ, List.getElem_cons_zero, List.setIfInBounds_toArray, List.set_cons_zero, List.set_cons_succ])
    refine wpLA_big (X) (by rfl) (fun w' => by go_simp) (fun w' hb => HRX.out w' (HS.out.on6 ((S5.out.on hb).below))) ?_
    intro A6 c6 w6 hb hs
    have S6 : Hid (St w w6 [(p2, sA Y, ST), (p1, sA X, ST)] [(A6, c6, ivs (dg (X)))]) := hid ((S5.out.on hb).more hs)
    clear hb hs S5
    (try simp only [Act.put, List.getElem_toArray, List.getElem_cons_succ, List.getElem_cons_zero, List.setIfInBounds_toArray, List.set_cons_zero, List.set_cons_succ])
    refine wpLA_take (.slice A' (ys.length) c') (yG_val _ (by rfl) (fun w' _ => by (go_simp; try rfl))) ?_
    (try simp only [Act.put, List.getElem_toArray, List.getElem_cons_succ, List.getElem_cons_zero, List.setIfInBounds_toArray, List.set_cons_zero, List.set_cons_succ])
    refine wpLA_big (Y) (by rfl) (fun w' => by go_simp) (fun w' hb => HRY.out w' (HS'.out.on6 ((S6.out.on hb).below))) ?_
    intro A7 c7 w7 hb hs
    have S7 : Hid (St w w7 [(p2, sA Y, ST), (p1, sA X, ST)] [(A7, c7, ivs (dg (Y))), (A6, c6, ivs (dg (X)))]) := hid ((S6.out.on hb).more hs)
    clear hb hs S6
    (try simp only [Act.put, List.getElem_toArray, List.getElem_cons_succ, List.getElem_cons_zero, List.setIfInBounds_toArray, List.set_cons_zero, List.set_cons_succ])
    refine wpLA_take (.slice A6 ((dg (X)).length) c6) (yG_val _ (by rfl) (fun w' _ => by (go_simp; try rfl))) ?_
    (try simp only [Act.put, List.getElem_toArray, List.getElem_cons_succ, List.getElem_cons_zero, List.setIfInBounds_toArray, List.set_cons_zero, List.set_cons_succ])
    refine wpLA_take (.slice A7 ((dg (Y)).length) c7) (yG_val _ (by rfl) (fun w' _ => by (go_simp; try rfl))) ?_
    (try simp only [Act.put, List.getElem_toArray, List.getElem_cons_succ, List.getElem_cons_zero, List.setIfInBounds_toArray, List.set_cons_zero, List.set_cons_succ])
    refine wpLA_end ?_
    intro w8 hb
    have S8 := hid (S7.out.on hb)
    clear hb S7
    go_upto_region 11 with fail
    refine wpLA_start ?_
    refine wpLA_take (.agg (sA X)) (yG_part (by rfl) ST (.tmp 7) rfl p1 0 rfl ST (sA X) (sA X) (0, 0) _ S8.out.cl.2.1 (sA_all _) Try.underlying26 rfl (infoSA _)) ?_
    (try simp only [Act.put, List.getElem_toArray, List.getElem_cons_succ, List.getElem_cons_zero, List.setIfInBounds_toArray, List.set_cons_zero, List.set_cons_succ])
    refine wpLA_take (.slice A6 ((dg (X)).length) c6) (yG_val _ (by rfl) (fun w' _ => by (go_simp; try rfl))) ?_
    (try simp only [Act.put, List.getElem_toArray, List.getElem_cons_succ, List.getElem_cons_zero, List.setIfInBounds_toArray, List.set_cons_zero, List.set_cons_succ])
    refine wpLA_take (.bool true) (yG_call (by rfl) (fun w' => by go_simp) (fun w' hb => IX.out A6 c6 w' (S8.out.on hb).sq.2.1)) ?_
    (try simp only [Act.put, List.getElem_toArray, List.getElem_cons_succ, List.getElem_cons_zero, List.setIfInBounds_toArray, List.set_cons_zero, List.set_cons_succ])
    refine wpLA_take (.bool true) (yG_val _ (by rfl) (fun w' _ => by (go_simp; try rfl))) ?_
    (try simp only [Act.put, List.getElem_toArray, List.getElem_cons_succ, List.getElem_cons_zero, List.setIfInBounds_toArray, List.set_cons_zero, List.set_cons_succ])
    refine wpLA_take (.agg (sA Y)) (yG_part (by rfl) ST (.tmp 8) rfl p2 0 rfl ST (sA Y) (sA Y) (0, 0) _ S8.out.cl.1 (sA_all _) Try.underlying26 rfl (infoSA _)) ?_
    (try simp only [Act.put, List.getElem_toArray, List.getElem_cons_succ, List.getElem_cons_zero, List.setIfInBounds_toArray, List.set_cons_zero, List.set_cons_succ])
    refine wpLA_take (.slice A7 ((dg (Y)).length) c7) (yG_val _ (by rfl) (fun w' _ => by (go_simp; try rfl))) ?_
    (try simp only [Act.put, List.getElem_toArray, List.getElem_cons_succ, List.getElem_cons_zero, List.setIfInBounds_toArray, List.set_cons_zero, List.set_cons_succ])
    refine wpLA_take (.bool true) (yG_call (by rfl) (fun w' => by go_simp) (fun w' hb => IY.out A7 c7 w' (S8.out.on hb).sq.1)) ?_
    (try simp only [Act.put, List.getElem_toArray, List.getElem_cons_succ, List.getElem_cons_zero, List.setIfInBounds_toArray, List.set_cons_zero, List.set_cons_succ])
    refine wpLA_take (.bool true) (yG_val _ (by rfl) (fun w' _ => by (go_simp; try rfl))) ?_
    (try simp only [Act.put, List.getElem_toArray, List.getElem_cons_succ, List.getElem_cons_zero, List.setIfInBounds_toArray, List.set_cons_zero, List.set_cons_succ])
    refine wpLA_take (.bool true) (yG_val _ (by rfl) (fun w' _ => by (go_simp; try rfl))) ?_
    (try simp only [Act.put, List.getElem_toArray, List.getElem_cons_succ, List.getElem_cons_zero, List.setIfInBounds_toArray, List.set_cons_zero, List.set_cons_succ])
    refine wpLA_take (.agg (sA X)) (yG_part (by rfl) ST (.tmp 7) rfl p1 0 rfl ST (sA X) (sA X) (0, 0) _ S8.out.cl.2.1 (sA_all _) Try.underlying26 rfl (infoSA _)) ?_
    (try simp only [Act.put, List.getElem_toArray, List.getElem_cons_succ, List.getElem_cons_zero, List.setIfInBounds_toArray, List.set_cons_zero, List.set_cons_succ])
    refine wpLA_take (.agg (sA Y)) (yG_part (by rfl) ST (.tmp 8) rfl p2 0 rfl ST (sA Y) (sA Y) (0, 0) _ S8.out.cl.1 (sA_all _) Try.underlying26 rfl (infoSA _)) ?_
    (try simp only [Act.put, List.getElem_toArray, List.getElem_cons_succ, List.getElem_cons_zero, List.setIfInBounds_toArray, List.set_cons_zero, List.set_cons_succ])
    refine wpLA_take (.agg (sA s1)) (yG_call (by rfl) (fun w' => by go_simp) (fun w' hb => Ks1.out w')) ?_
    (try simp only [Act.put, List.getElem_toArray, List.getElem_cons_succ, List.getElem_cons_zero, List.setIfInBounds_toArray, List.set_cons_zero, List.set_cons_succ])
    refine wpLA_take (.slice A6 ((dg (X)).length) c6) (yG_val _ (by rfl) (fun w' _ => by (go_simp; try rfl))) ?_
    (try simp only [Act.put, List.getElem_toArray, List.getElem_cons_succ, List.getElem_cons_zero, List.setIfInBounds_toArray, List.set_cons_zero, List.set_cons_succ])
    refine wpLA_take (.slice A7 ((dg (Y)).length) c7) (yG_val _ (by rfl) (fun w' _ => by (go_simp; try rfl))) ?_
    (try simp only [Act.put, List.getElem_toArray, List.getElem_cons_succ, List.getElem_cons_zero, List.setIfInBounds_toArray, List.set_cons_zero, List.set_cons_succ])
    refine wpLA_big (X + Y) (by rfl) (fun w' => by go_simp) (fun w' hb => Add_any X Y _ _ _ _ w' (S8.out.on hb).sq.2.1 (S8.out.on hb).sq.1 (Nat.le_trans HX17.out (by decide)) (Nat.le_trans HY17.out (by decide))) ?_
    intro A9 c9 w9 hb hs
    have S9 : Hid (St w w9 [(p2, sA Y, ST), (p1, sA X, ST)] [(A9, c9, ivs (dg (X + Y))), (A7, c7, ivs (dg (Y))), (A6, c6, ivs (dg (X)))]) := hid ((S8.out.on hb).more hs)
    clear hb hs S8
    (try simp only [Act.put, List.getElem_toArray, List.getElem_cons_succ, List.getElem_cons_zero, List.setIfInBounds_toArray, List.set_cons_zero, List.set_cons_succ])
    refine wpLA_big (s1) (by rfl) (fun w' => by go_simp) (fun w' hb => Ms1.out _ _ w' (S9.out.on hb).sq.1) ?_
    intro A10 c10 w10 hb hs
    have S10 : Hid (St w w10 [(p2, sA Y, ST), (p1, sA X, ST)] [(A10, c10, ivs (dg (s1))), (A9, c9, ivs (dg (X + Y))), (A7, c7, ivs (dg (Y))), (A6, c6, ivs (dg (X)))]) := hid ((S9.out.on hb).more hs)
    clear hb hs S9
    (try simp only [Act.put, List.getElem_toArray, List.getElem_cons_succ, List.getElem_cons_zero, List.setIfInBounds_toArray, List.set_cons_zero, List.set_cons_succ])
    refine wpLA_take (.bool true) (yG_call (by rfl) (fun w' => by go_simp) (fun w' hb => Is1.out A10 c10 w' (S10.out.on hb).sq.1)) ?_
    (try simp only [Act.put, List.getElem_toArray, List.getElem_cons_succ, List.getElem_cons_zero, List.setIfInBounds_toArray, List.set_cons_zero, List.set_cons_succ])
    refine wpLA_take (.bool true) (yG_val _ (by rfl) (fun w' _ => by (go_simp; try rfl))) ?_
    (try simp only [Act.put, List.getElem_toArray, List.getElem_cons_succ, List.getElem_cons_zero, List.setIfInBounds_toArray, List.set_cons_zero, List.set_cons_succ])
    refine wpLA_take (.bool true) (yG_val _ (by rfl) (fun w' _ => by (go_simp; try rfl))) ?_
    (try simp only [Act.put, List.getElem_toArray, List.getElem_cons_succ, List.getElem_cons_zero, List.setIfInBounds_toArray, List.set_cons_zero, List.set_cons_succ])
    refine wpLA_take (.agg (sA X)) (yG_part (by rfl) ST (.tmp 7) rfl p1 0 rfl ST (sA X) (sA X) (0, 0) _ S10.out.cl.2.1 (sA_all _) Try.underlying26 rfl (infoSA _)) ?_
    (try simp only [Act.put, List.getElem_toArray, List.getElem_cons_succ, List.getElem_cons_zero, List.setIfInBounds_toArray, List.set_cons_zero, List.set_cons_succ])
    refine wpLA_take (.agg (sA Y)) (yG_part (by rfl) ST (.tmp 8) rfl p2 0 rfl ST (sA Y) (sA Y) (0, 0) _ S10.out.cl.1 (sA_all _) Try.underlying26 rfl (infoSA _)) ?_
    (try simp only [Act.put, List.getElem_toArray, List.getElem_cons_succ, List.getElem_cons_zero, List.setIfInBounds_toArray, List.set_cons_zero, List.set_cons_succ])
    refine wpLA_take (.agg (sA s2)) (yG_call (by rfl) (fun w' => by go_simp) (fun w' hb => Ks2.out w')) ?_
    (try simp only [Act.put, List.getElem_toArray, List.getElem_cons_succ, List.getElem_cons_zero, List.setIfInBounds_toArray, List.set_cons_zero, List.set_cons_succ])
    refine wpLA_take (.slice A6 ((dg (X)).length) c6) (yG_val _ (by rfl) (fun w' _ => by (go_simp; try rfl))) ?_
    (try simp only [Act.put, List.getElem_toArray, List.getElem_cons_succ, List.getElem_cons_zero, List.setIfInBounds_toArray, List.set_cons_zero, List.set_cons_succ])
    refine wpLA_take (.slice A7 ((dg (Y)).length) c7) (yG_val _ (by rfl) (fun w' _ => by (go_simp; try rfl))) ?_
    (try simp only [Act.put, List.getElem_toArray, List.getElem_cons_succ, List.getElem_cons_zero, List.setIfInBounds_toArray, List.set_cons_zero, List.set_cons_succ])
    refine wpLA_big (X * Y) (by rfl) (fun w' => by go_simp) (fun w' hb => Mul_any X Y _ _ _ _ w' (S10.out.on hb).sq.2.2.2.1 (S10.out.on hb).sq.2.2.1 (Nat.le_trans HX17.out (by decide)) (Nat.le_trans HY17.out (by decide))) ?_
    intro A11 c11 w11 hb hs
    have S11 : Hid (St w w11 [(p2, sA Y, ST), (p1, sA X, ST)] [(A11, c11, ivs (dg (X * Y))), (A10, c10, ivs (dg (s1))), (A9, c9, ivs (dg (X + Y))), (A7, c7, ivs (dg (Y))), (A6, c6, ivs (dg (X)))]) := hid ((S10.out.on hb).more hs)
    clear hb hs S10
    (try simp only [Act.put, List.getElem_toArray, List.getElem_cons_succ, List.getElem_cons_zero, List.setIfInBounds_toArray, List.set_cons_zero, List.set_cons_succ])
    refine wpLA_big (s2) (by rfl) (fun w' => by go_simp) (fun w' hb => Ms2.out _ _ w' (S11.out.on hb).sq.1) ?_
    intro A12 c12 w12 hb hs
    have S12 : Hid (St w w12 [(p2, sA Y, ST), (p1, sA X, ST)] [(A12, c12, ivs (dg (s2))), (A11, c11, ivs (dg (X * Y))), (A10, c10, ivs (dg (s1))), (A9, c9, ivs (dg (X + Y))), (A7, c7, ivs (dg (Y))), (A6, c6, ivs (dg (X)))]) := hid ((S11.out.on hb).more hs)
    clear hb hs S11
    (try simp only [Act.put, List.getElem_toArray, List.getElem_cons_succ, List.getElem_cons_zero, List.setIfInBounds_toArray, List.set_cons_zero, List.set_cons_succ])
    refine wpLA_take (.bool true) (yG_call (by rfl) (fun w' => by go_simp) (fun w' hb => Is2.out A12 c12 w' (S12.out.on hb).sq.1)) ?_
    (try simp only [Act.put, List.getElem_toArray, List.getElem_cons_succ, List.getElem_cons_zero, List.setIfInBounds_toArray, List.set_cons_zero, List.set_cons_succ])
    refine wpLA_take (.bool true) (yG_val _ (by rfl) (fun w' _ => by (go_simp; try rfl))) ?_
    (try simp only [Act.put, List.getElem_toArray, List.getElem_cons_succ, List.getElem_cons_zero, List.setIfInBounds_toArray, List.set_cons_zero, List.set_cons_succ])
    refine wpLA_take (.bool true) (yG_val _ (by rfl) (fun w' _ => by (go_simp; try rfl))) ?_
    (try simp only [Act.put, List.getElem_toArray, List.getElem_cons_succ, List.getElem_cons_zero, List.setIfInBounds_toArray, List.set_cons_zero, List.set_cons_succ])
    refine wpLA_take (.agg (sA X)) (yG_part (by rfl) ST (.tmp 7) rfl p1 0 rfl ST (sA X) (sA X) (0, 0) _ S12.out.cl.2.1 (sA_all _) Try.underlying26 rfl (infoSA _)) ?_
    (try simp only [Act.put, List.getElem_toArray, List.getElem_cons_succ, List.getElem_cons_zero, List.setIfInBounds_toArray, List.set_cons_zero, List.set_cons_succ])
    refine wpLA_take (.agg (sA s3)) (yG_call (by rfl) (fun w' => by go_simp) (fun w' hb => Ks3.out w')) ?_
    (try simp only [Act.put, List.getElem_toArray, List.getElem_cons_succ, List.getElem_cons_zero, List.setIfInBounds_toArray, List.set_cons_zero, List.set_cons_succ])
    refine wpLA_big (ordL) (by rfl) (fun w' => by go_simp) (fun w' hb => Order_any w') ?_
    intro A13 c13 w13 hb hs
    have S13 : Hid (St w w13 [(p2, sA Y, ST), (p1, sA X, ST)] [(A13, c13, ivs (dg (ordL))), (A12, c12, ivs (dg (s2))), (A11, c11, ivs (dg (X * Y))), (A10, c10, ivs (dg (s1))), (A9, c9, ivs (dg (X + Y))), (A7, c7, ivs (dg (Y))), (A6, c6, ivs (dg (X)))]) := hid ((S12.out.on hb).more hs)
    clear hb hs S12
    (try simp only [Act.put, List.getElem_toArray, List.getElem_cons_succ, List.getElem_cons_zero, List.setIfInBounds_toArray, List.set_cons_zero, List.set_cons_succ])
    refine wpLA_take (.slice A6 ((dg (X)).length) c6) (yG_val _ (by rfl) (fun w' _ => by (go_simp; try rfl))) ?_
    (try simp only [Act.put, List.getElem_toArray, List.getElem_cons_succ, List.getElem_cons_zero, List.setIfInBounds_toArray, List.set_cons_zero, List.set_cons_succ])
    refine wpLA_big (ordL - X) (by rfl) (fun w' => by go_simp) (fun w' hb => Sub_any ordL X _ _ _ _ w' (S13.out.on hb).sq.1 (S13.out.on hb).sq.2.2.2.2.2.2.1 (Nat.le_trans HO17.out (by decide)) HXO.out) ?_
    intro A14 c14 w14 hb hs
    have S14 : Hid (St w w14 [(p2, sA Y, ST), (p1, sA X, ST)] [(A14, c14, ivs (dg (ordL - X))), (A13, c13, ivs (dg (ordL))), (A12, c12, ivs (dg (s2))), (A11, c11, ivs (dg (X * Y))), (A10, c10, ivs (dg (s1))), (A9, c9, ivs (dg (X + Y))), (A7, c7, ivs (dg (Y))), (A6, c6, ivs (dg (X)))]) := hid ((S13.out.on hb).more hs)
    clear hb hs S13
    (try simp only [Act.put, List.getElem_toArray, List.getElem_cons_succ, List.getElem_cons_zero, List.setIfInBounds_toArray, List.set_cons_zero, List.set_cons_succ])
    refine wpLA_big (s3) (by rfl) (fun w' => by go_simp) (fun w' hb => Ms3.out _ _ w' (S14.out.on hb).sq.1) ?_
    intro A15 c15 w15 hb hs
    have S15 : Hid (St w w15 [(p2, sA Y, ST), (p1, sA X, ST)] [(A15, c15, ivs (dg (s3))), (A14, c14, ivs (dg (ordL - X))), (A13, c13, ivs (dg (ordL))), (A12, c12, ivs (dg (s2))), (A11, c11, ivs (dg (X * Y))), (A10, c10, ivs (dg (s1))), (A9, c9, ivs (dg (X + Y))), (A7, c7, ivs (dg (Y))), (A6, c6, ivs (dg (X)))]) := hid ((S14.out.on hb).more hs)
    clear hb hs S14
    (try simp only [Act.put, List.getElem_toArray, List.getElem_cons_succ, List.getElem_cons_zero, List.setIfInBounds_toArray, List.set_cons_zero, List.set_cons_succ])
    refine wpLA_take (.bool true) (yG_call (by rfl) (fun w' => by go_simp) (fun w' hb => Is3.out A15 c15 w' (S15.out.on hb).sq.1)) ?_
    (try simp only [Act.put, List.getElem_toArray, List.getElem_cons_succ, List.getElem_cons_zero, List.setIfInBounds_toArray, List.set_cons_zero, List.set_cons_succ])
    refine wpLA_take (.bool true) (yG_val _ (by rfl) (fun w' _ => by (go_simp; try rfl))) ?_
    (try simp only [Act.put, List.getElem_toArray, List.getElem_cons_succ, List.getElem_cons_zero, List.setIfInBounds_toArray, List.set_cons_zero, List.set_cons_succ])
    refine wpLA_take (.bool true) (yG_val _ (by rfl) (fun w' _ => by (go_simp; try rfl))) ?_
    (try simp only [Act.put, List.getElem_toArray, List.getElem_cons_succ, List.getElem_cons_zero, List.setIfInBounds_toArray, List.set_cons_zero, List.set_cons_succ])
    refine wpLA_take (.agg (sA X)) (yG_part (by rfl) ST (.tmp 7) rfl p1 0 rfl ST (sA X) (sA X) (0, 0) _ S15.out.cl.2.1 (sA_all _) Try.underlying26 rfl (infoSA _)) ?_
    (try simp only [Act.put, List.getElem_toArray, List.getElem_cons_succ, List.getElem_cons_zero, List.setIfInBounds_toArray, List.set_cons_zero, List.set_cons_succ])
    refine wpLA_take (.int .i64 (t)) (yG_val _ (by rfl) (fun w' _ => by (go_simp; try rfl))) ?_
    (try simp only [Act.put, List.getElem_toArray, List.getElem_cons_succ, List.getElem_cons_zero, List.setIfInBounds_toArray, List.set_cons_zero, List.set_cons_succ])
    refine wpLA_take (.int .i64 0) (yG_call (by rfl) (fun w' => by go_simp) (fun w' hb => KB.out w')) ?_
    (try simp only [Act.put, List.getElem_toArray, List.getElem_cons_succ, List.getElem_cons_zero, List.setIfInBounds_toArray, List.set_cons_zero, List.set_cons_succ])
    refine wpLA_take (.int .i64 0) (yG_val _ (by rfl) (fun w' _ => by (go_simp; try rfl))) ?_
    (try simp only [Act.put, List.getElem_toArray, List.getElem_cons_succ, List.getElem_cons_zero, List.setIfInBounds_toArray, List.set_cons_zero, List.set_cons_succ])
    refine wpLA_take (.bool true) (yG_val _ (by rfl) (fun w' _ => by (go_simp; try rfl))) ?_
    (try simp only [Act.put, List.getElem_toArray, List.getElem_cons_succ, List.getElem_cons_zero, List.setIfInBounds_toArray, List.set_cons_zero, List.set_cons_succ])
    refine wpLA_take (.bool true) (yG_val _ (by rfl) (fun w' _ => by (go_simp; try rfl))) ?_
    (try simp only [Act.put, List.getElem_toArray, List.getElem_cons_succ, List.getElem_cons_zero, List.setIfInBounds_toArray, List.set_cons_zero, List.set_cons_succ])
    refine wpLA_take (.bool true) (yG_val _ (by rfl) (fun w' _ => by (go_simp; try rfl))) ?_
    (try simp only [Act.put, List.getElem_toArray, List.getElem_cons_succ, List.getElem_cons_zero, List.setIfInBounds_toArray, List.set_cons_zero, List.set_cons_succ])
    refine wpLA_take (.agg (sA X)) (yG_part (by rfl) ST (.tmp 7) rfl p1 0 rfl ST (sA X) (sA X) (0, 0) _ S15.out.cl.2.1 (sA_all _) Try.underlying26 rfl (infoSA _)) ?_
    (try simp only [Act.put, List.getElem_toArray, List.getElem_cons_succ, List.getElem_cons_zero, List.setIfInBounds_toArray, List.set_cons_zero, List.set_cons_succ])
    refine wpLA_take (.agg (sA Y)) (yG_part (by rfl) ST (.tmp 8) rfl p2 0 rfl ST (sA Y) (sA Y) (0, 0) _ S15.out.cl.1 (sA_all _) Try.underlying26 rfl (infoSA _)) ?_
    (try simp only [Act.put, List.getElem_toArray, List.getElem_cons_succ, List.getElem_cons_zero, List.setIfInBounds_toArray, List.set_cons_zero, List.set_cons_succ])
    refine wpLA_take (.bool sm) (yG_call (by rfl) (fun w' => by go_simp) (fun w' hb => KS.out w')) ?_
    (try simp only [Act.put, List.getElem_toArray, List.getElem_cons_succ, List.getElem_cons_zero, List.setIfInBounds_toArray, List.set_cons_zero, List.set_cons_succ])
    refine wpLA_take (.slice A6 ((dg (X)).length) c6) (yG_val _ (by rfl) (fun w' _ => by (go_simp; try rfl))) ?_
    (try simp only [Act.put, List.getElem_toArray, List.getElem_cons_succ, List.getElem_cons_zero, List.setIfInBounds_toArray, List.set_cons_zero, List.set_cons_succ])
    refine wpLA_take (.slice A7 ((dg (Y)).length) c7) (yG_val _ (by rfl) (fun w' _ => by (go_simp; try rfl))) ?_
    (try simp only [Act.put, List.getElem_toArray, List.getElem_cons_succ, List.getElem_cons_zero, List.setIfInBounds_toArray, List.set_cons_zero, List.set_cons_succ])
    refine wpLA_take (.bool sm) (yG_call (by rfl) (fun w' => by go_simp) (fun w' hb => calls_drew (KR.out _ _ _ _ _ _ w' (S15.out.on hb).sq.2.2.2.2.2.2.2.2.1 (S15.out.on hb).sq.2.2.2.2.2.2.2.1))) ?_
    (try simp only [Act.put, List.getElem_toArray, List.getElem_cons_succ, List.getElem_cons_zero, List.setIfInBounds_toArray, List.set_cons_zero, List.set_cons_succ])
    refine wpLA_take (.bool true) (yG_val _ (by rfl) (fun w' _ => by (go_simp; try rfl))) ?_
    (try simp only [Act.put, List.getElem_toArray, List.getElem_cons_succ, List.getElem_cons_zero, List.setIfInBounds_toArray, List.set_cons_zero, List.set_cons_succ])
    refine wpLA_take (.bool true) (yG_val _ (by rfl) (fun w' _ => by (go_simp; try rfl))) ?_
    (try simp only [Act.put, List.getElem_toArray, List.getElem_cons_succ, List.getElem_cons_zero, List.setIfInBounds_toArray, List.set_cons_zero, List.set_cons_succ])
    refine wpLA_take (.bool true) (yG_val _ (by rfl) (fun w' _ => by (go_simp; try rfl))) ?_
    (try simp only [Act.put, List.getElem_toArray, List.getElem_cons_succ, List.getElem_cons_zero, List.setIfInBounds_toArray, List.set_cons_zero, List.set_cons_succ])
    refine wpLA_end ?_
    intro w16 hb
    have S16 := hid (S15.out.on hb)
    clear hb S15
    go_wp2_with fail
    go_ret
    exact ⟨rfl, S16.out.below⟩
  · have hi1 : (0 : Int) ≤ t := by omega
    have hi2 : ¬ t < 256 := by omega
    clear hi ht0 ht1 hXl hYl hn
    go_enter Try.func3, Try.ntmps3
    go_wp2_with fail
    refine (HAL.out _).mono ?_
    rintro e w0 ⟨rfl, hb⟩
    have S0 : Hid (St w w0 [] []) := hid ((St.start w).on hb)
    clear hb
    go_upto_region 5 with fail
    refine wpLA_start ?_
    refine wpLA_take (.slice A (xs.length) c) (yG_val _ (by rfl) (fun w' _ => by (go_simp; try rfl))) ?_
    (try simp only [Act.put, List.getElem_toArray, List.getElem_cons_succ, List.getElem_cons_zero, List.setIfInBounds_toArray, List.set_cons_zero, List.set_cons_succ])
    refine wpLA_take (.agg (sA X)) (yG_call (by rfl) (fun w' => by go_simp) (fun w' hb => HOX.out w' (HS.out.on6 ((S0.out.on hb).below)))) ?_
    (try simp only [Act.put, List.getElem_toArray, List.getElem_cons_succ, List.getElem_cons_zero, List.setIfInBounds_toArray, List.set_cons_zero, List.set_cons_succ])
    refine wpLA_take (.slice A' (ys.length) c') (yG_val _ (by rfl) (fun w' _ => by (go_simp; try rfl))) ?_
    (try simp only [Act.put, List.getElem_toArray, List.getElem_cons_succ, List.getElem_cons_zero, List.setIfInBounds_toArray, List.set_cons_zero, List.set_cons_succ])
    refine wpLA_take (.agg (sA Y)) (yG_call (by rfl) (fun w' => by go_simp) (fun w' hb => HOY.out w' (HS'.out.on6 ((S0.out.on hb).below)))) ?_
    (try simp only [Act.put, List.getElem_toArray, List.getElem_cons_succ, List.getElem_cons_zero, List.setIfInBounds_toArray, List.set_cons_zero, List.set_cons_succ])
    refine wpLA_alloc (by rfl) rfl zeroS ?_
    intro p1 w1 hp hz hb
    have S1 : Hid (St w w1 [(p1, zS, ST)] []) := hid (S0.out.alloc hb hp hz)
    clear hp hz hb S0
    (try simp only [Act.put, List.getElem_toArray, List.getElem_cons_succ, List.getElem_cons_zero, List.setIfInBounds_toArray, List.set_cons_zero, List.set_cons_succ])
    refine wpLA_alloc (by rfl) rfl zeroS ?_
    intro p2 w2 hp hz hb
    have S2 : Hid (St w w2 [(p2, zS, ST), (p1, zS, ST)] []) := hid (S1.out.alloc hb hp hz)
    clear hp hz hb S1
    (try simp only [Act.put, List.getElem_toArray, List.getElem_cons_succ, List.getElem_cons_zero, List.setIfInBounds_toArray, List.set_cons_zero, List.set_cons_succ])
    refine wpLA_store rfl ST (.tmp 7) (.tmp 25) rfl p1 (sA X) rfl rfl ST (zS) S2.out.cl.2.1 (infoSA _) rfl (oneSA _) ?_
    intro wx hb
    have S3 : Hid (St w (wx.setRow p1 (sA X)) [(p2, zS, ST), (p1, sA X, ST)] []) := hid ((S2.out.on hb).put0 1 rfl)
    clear hb S2
    generalize wx.setRow p1 (sA X) = w3 at S3 ⊢
    (try simp only [Act.put, List.getElem_toArray, List.getElem_cons_succ, List.getElem_cons_zero, List.setIfInBounds_toArray, List.set_cons_zero, List.set_cons_succ])
    refine wpLA_store rfl ST (.tmp 8) (.tmp 27) rfl p2 (sA Y) rfl rfl ST (zS) S3.out.cl.1 (infoSA _) rfl (oneSA _) ?_
    intro wx hb
    have S4 : Hid (St w (wx.setRow p2 (sA Y)) [(p2, sA Y, ST), (p1, sA X, ST)] []) := hid ((S3.out.on hb).put0 0 rfl)
    clear hb S3
    generalize wx.setRow p2 (sA Y) = w4 at S4 ⊢
    (try simp only [Act.put, List.getElem_toArray, List.getElem_cons_succ, List.getElem_cons_zero, List.setIfInBounds_toArray, List.set_cons_zero, List.set_cons_succ])
    refine wpLA_end ?_
    intro w5 hb
    have S5 := hid (S4.out.on hb)
    clear hb S4
    go_upto_region 6 with fail
    refine wpLA_start ?_
    refine wpLA_take (.slice A (xs.length) c) (yG_val _ (by rfl) (fun w' _ => by (go_simp; try rfl))) ?_
    (try simp only [Act.put, List.getElem_toArray, List.getElem_cons_succ, List.getElem_cons_zero, List.setIfInBounds_toArray, List.set_cons_zero, List.set_cons_succ])
    refine wpLA_big (X) (by rfl) (fun w' => by go_simp) (fun w' hb => HRX.out w' (HS.out.on6 ((S5.out.on hb).below))) ?_
    intro A6 c6 w6 hb hs
    have S6 : Hid (St w w6 [(p2, sA Y, ST), (p1, sA X, ST)] [(A6, c6, ivs (dg (X)))]) := hid ((S5.out.on hb).more hs)
    clear hb hs S5
    (try simp only [Act.put, List.getElem_toArray, List.getElem_cons_succ, List.getElem_cons_zero, List.setIfInBounds_toArray, List.set_cons_zero, List.set_cons_succ])
    refine wpLA_take (.slice A' (ys.length) c') (yG_val _ (by rfl) (fun w' _ => by (go_simp; try rfl))) ?_
    (try simp only [Act.put, List.getElem_toArray, List.getElem_cons_succ, List.getElem_cons_zero, List.setIfInBounds_toArray, List.set_cons_zero, List.set_cons_succ])
    refine wpLA_big (Y) (by rfl) (fun w' => by go_simp) (fun w' hb => HRY.out w' (HS'.out.on6 ((S6.out.on hb).below))) ?_
    intro A7 c7 w7 hb hs
    have S7 : Hid (St w w7 [(p2, sA Y, ST), (p1, sA X, ST)] [(A7, c7, ivs (dg (Y))), (A6, c6, ivs (dg (X)))]) := hid ((S6.out.on hb).more hs)
    clear hb hs S6
    (try simp only [Act.put, List.getElem_toArray, List.getElem_cons_succ, List.getElem_cons_zero, List.setIfInBounds_toArray, List.set_cons_zero, List.set_cons_succ])
    refine wpLA_take (.slice A6 ((dg (X)).length) c6) (yG_val _ (by rfl) (fun w' _ => by (go_simp; try rfl))) ?_
    (try simp only [Act.put, List.getElem_toArray, List.getElem_cons_succ, List.getElem_cons_zero, List.setIfInBounds_toArray, List.set_cons_zero, List.set_cons_succ])
    refine wpLA_take (.slice A7 ((dg (Y)).length) c7) (yG_val _ (by rfl) (fun w' _ => by (go_simp; try rfl))) ?_
    (try simp only [Act.put, List.getElem_toArray, List.getElem_cons_succ, List.getElem_cons_zero, List.setIfInBounds_toArray, List.set_cons_zero, List.set_cons_succ])
    refine wpLA_end ?_
    intro w8 hb
    have S8 := hid (S7.out.on hb)
    clear hb S7
    go_upto_region 11 with fail
    refine wpLA_start ?_
    refine wpLA_take (.agg (sA X)) (yG_part (by rfl) ST (.tmp 7) rfl p1 0 rfl ST (sA X) (sA X) (0, 0) _ S8.out.cl.2.1 (sA_all _) Try.underlying26 rfl (infoSA _)) ?_
    (try simp only [Act.put, List.getElem_toArray, List.getElem_cons_succ, List.getElem_cons_zero, List.setIfInBounds_toArray, List.set_cons_zero, List.set_cons_succ])
    refine wpLA_take (.slice A6 ((dg (X)).length) c6) (yG_val _ (by rfl) (fun w' _ => by (go_simp; try rfl))) ?_
    (try simp only [Act.put, List.getElem_toArray, List.getElem_cons_succ, List.getElem_cons_zero, List.setIfInBounds_toArray, List.set_cons_zero, List.set_cons_succ])
    refine wpLA_take (.bool true) (yG_call (by rfl) (fun w' => by go_simp) (fun w' hb => IX.out A6 c6 w' (S8.out.on hb).sq.2.1)) ?_
    (try simp only [Act.put, List.getElem_toArray, List.getElem_cons_succ, List.getElem_cons_zero, List.setIfInBounds_toArray, List.set_cons_zero, List.set_cons_succ])
    refine wpLA_take (.bool true) (yG_val _ (by rfl) (fun w' _ => by (go_simp; try rfl))) ?_
    (try simp only [Act.put, List.getElem_toArray, List.getElem_cons_succ, List.getElem_cons_zero, List.setIfInBounds_toArray, List.set_cons_zero, List.set_cons_succ])
    refine wpLA_take (.agg (sA Y)) (yG_part (by rfl) ST (.tmp 8) rfl p2 0 rfl ST (sA Y) (sA Y) (0, 0) _ S8.out.cl.1 (sA_all _) Try.underlying26 rfl (infoSA _)) ?_
    (try simp only [Act.put, List.getElem_toArray, List.getElem_cons_succ, List.getElem_cons_zero, List.setIfInBounds_toArray, List.set_cons_zero, List.set_cons_succ])
    refine wpLA_take (.slice A7 ((dg (Y)).length) c7) (yG_val _ (by rfl) (fun w' _ => by (go_simp; try rfl))) ?_
    (try simp only [Act.put, List.getElem_toArray, List.getElem_cons_succ, List.getElem_cons_zero, List.setIfInBounds_toArray, List.set_cons_zero, List.set_cons_succ])
    refine wpLA_take (.bool true) (yG_call (by rfl) (fun w' => by go_simp) (fun w' hb => IY.out A7 c7 w' (S8.out.on hb).sq.1)) ?_
    (try simp only [Act.put, List.getElem_toArray, List.getElem_cons_succ, List.getElem_cons_zero, List.setIfInBounds_toArray, List.set_cons_zero, List.set_cons_succ])
    refine wpLA_take (.bool true) (yG_val _ (by rfl) (fun w' _ => by (go_simp; try rfl))) ?_
    (try simp only [Act.put, List.getElem_toArray, List.getElem_cons_succ, List.getElem_cons_zero, List.setIfInBounds_toArray, List.set_cons_zero, List.set_cons_succ])
    refine wpLA_take (.bool true) (yG_val _ (by rfl) (fun w' _ => by (go_simp; try rfl))) ?_
    (try simp only [Act.put, List.getElem_toArray, List.getElem_cons_succ, List.getElem_cons_zero, List.setIfInBounds_toArray, List.set_cons_zero, List.set_cons_succ])
    refine wpLA_take (.agg (sA X)) (yG_part (by rfl) ST (.tmp 7) rfl p1 0 rfl ST (sA X) (sA X) (0, 0) _ S8.out.cl.2.1 (sA_all _) Try.underlying26 rfl (infoSA _)) ?_
    (try simp only [Act.put, List.getElem_toArray, List.getElem_cons_succ, List.getElem_cons_zero, List.setIfInBounds_toArray, List.set_cons_zero, List.set_cons_succ])
    refine wpLA_take (.agg (sA Y)) (yG_part (by rfl) ST (.tmp 8) rfl p2 0 rfl ST (sA Y) (sA Y) (0, 0) _ S8.out.cl.1 (sA_all _) Try.underlying26 rfl (infoSA _)) ?_
    (try simp only [Act.put, List.getElem_toArray, List.getElem_cons_succ, List.getElem_cons_zero, List.setIfInBounds_toArray, List.set_cons_zero, List.set_cons_succ])
    refine wpLA_take (.agg (sA s1)) (yG_call (by rfl) (fun w' => by go_simp) (fun w' hb => Ks1.out w')) ?_
    (try simp only [Act.put, List.getElem_toArray, List.getElem_cons_succ, List.getElem_cons_zero, List.setIfInBounds_toArray, List.set_cons_zero, List.set_cons_succ])
    refine wpLA_take (.slice A6 ((dg (X)).length) c6) (yG_val _ (by rfl) (fun w' _ => by (go_simp; try rfl))) ?_
    (try simp only [Act.put, List.getElem_toArray, List.getElem_cons_succ, List.getElem_cons_zero, List.setIfInBounds_toArray, List.set_cons_zero, List.set_cons_succ])
    refine wpLA_take (.slice A7 ((dg (Y)).length) c7) (yG_val _ (by rfl) (fun w' _ => by (go_simp; try rfl))) ?_
    (try simp only [Act.put, List.getElem_toArray, List.getElem_cons_succ, List.getElem_cons_zero, List.setIfInBounds_toArray, List.set_cons_zero, List.set_cons_succ])
    refine wpLA_big (X + Y) (by rfl) (fun w' => by go_simp) (fun w' hb => Add_any X Y _ _ _ _ w' (S8.out.on hb).sq.2.1 (S8.out.on hb).sq.1 (Nat.le_trans HX17.out (by decide)) (Nat.le_trans HY17.out (by decide))) ?_
    intro A9 c9 w9 hb hs
    have S9 : Hid (St w w9 [(p2, sA Y, ST), (p1, sA X, ST)] [(A9, c9, ivs (dg (X + Y))), (A7, c7, ivs (dg (Y))), (A6, c6, ivs (dg (X)))]) := hid ((S8.out.on hb).more hs)
    clear hb hs S8
    (try simp only [Act.put, List.getElem_toArray, List.getElem_cons_succ, List.getElem_cons_zero, List.setIfInBounds_toArray, List.set_cons_zero, List.set_cons_succ])
    refine wpLA_big (s1) (by rfl) (fun w' => by go_simp) (fun w' hb => Ms1.out _ _ w' (S9.out.on hb).sq.1) ?_
    intro A10 c10 w10 hb hs
    have S10 : Hid (St w w10 [(p2, sA Y, ST), (p1, sA X, ST)] [(A10, c10, ivs (dg (s1))), (A9, c9, ivs (dg (X + Y))), (A7, c7, ivs (dg (Y))), (A6, c6, ivs (dg (X)))]) := hid ((S9.out.on hb).more hs)
    clear hb hs S9
    (try simp only [Act.put, List.getElem_toArray, List.getElem_cons_succ, List.getElem_cons_zero, List.setIfInBounds_toArray, List.set_cons_zero, List.set_cons_succ])
    refine wpLA_take (.bool true) (yG_call (by rfl) (fun w' => by go_simp) (fun w' hb => Is1.out A10 c10 w' (S10.out.on hb).sq.1)) ?_
    (try simp only [Act.put, List.getElem_toArray, List.getElem_cons_succ, List.getElem_cons_zero, List.setIfInBounds_toArray, List.set_cons_zero, List.set_cons_succ])
    refine wpLA_take (.bool true) (yG_val _ (by rfl) (fun w' _ => by (go_simp; try rfl))) ?_
    (try simp only [Act.put, List.getElem_toArray, List.getElem_cons_succ, List.getElem_cons_zero, List.setIfInBounds_toArray, List.set_cons_zero, List.set_cons_succ])
    refine wpLA_take (.bool true) (yG_val _ (by rfl) (fun w' _ => by (go_simp; try rfl))) ?_
    (try simp only [Act.put, List.getElem_toArray, List.getElem_cons_succ, List.getElem_cons_zero, List.setIfInBounds_toArray, List.set_cons_zero, List.set_cons_succ])
    refine wpLA_take (.agg (sA X)) (yG_part (by rfl) ST (.tmp 7) rfl p1 0 rfl ST (sA X) (sA X) (0, 0) _ S10.out.cl.2.1 (sA_all _) Try.underlying26 rfl (infoSA _)) ?_
    (try simp only [Act.put, List.getElem_toArray, List.getElem_cons_succ, List.getElem_cons_zero, List.setIfInBounds_toArray, List.set_cons_zero, List.set_cons_succ])
    refine wpLA_take (.agg (sA Y)) (yG_part (by rfl) ST (.tmp 8) rfl p2 0 rfl ST (sA Y) (sA Y) (0, 0) _ S10.out.cl.1 (sA_all _) Try.underlying26 rfl (infoSA _)) ?_
    (try simp only [Act.put, List.getElem_toArray, List.getElem_cons_succ, List.getElem_cons_zero, List.setIfInBounds_toArray, List.set_cons_zero, List.set_cons_succ])
    refine wpLA_take (.agg (sA s2)) (yG_call (by rfl) (fun w' => by go_simp) (fun w' hb => Ks2.out w')) ?_
    (try simp only [Act.put, List.getElem_toArray, List.getElem_cons_succ, List.getElem_cons_zero, List.setIfInBounds_toArray, List.set_cons_zero, List.set_cons_succ])
    refine wpLA_take (.slice A6 ((dg (X)).length) c6) (yG_val _ (by rfl) (fun w' _ => by (go_simp; try rfl))) ?_
    (try simp only [Act.put, List.getElem_toArray, List.getElem_cons_succ, List.getElem_cons_zero, List.setIfInBounds_toArray, List.set_cons_zero, List.set_cons_succ])
    refine wpLA_take (.slice A7 ((dg (Y)).length) c7) (yG_val _ (by rfl) (fun w' _ => by (go_simp; try rfl))) ?_
    (try simp only [Act.put, List.getElem_toArray, List.getElem_cons_succ, List.getElem_cons_zero, List.setIfInBounds_toArray, List.set_cons_zero, List.set_cons_succ])
    refine wpLA_big (X * Y) (by rfl) (fun w' => by go_simp) (fun w' hb => Mul_any X Y _ _ _ _ w' (S10.out.on hb).sq.2.2.2.1 (S10.out.on hb).sq.2.2.1 (Nat.le_trans HX17.out (by decide)) (Nat.le_trans HY17.out (by decide))) ?_
    intro A11 c11 w11 hb hs
    have S11 : Hid (St w w11 [(p2, sA Y, ST), (p1, sA X, ST)] [(A11, c11, ivs (dg (X * Y))), (A10, c10, ivs (dg (s1))), (A9, c9, ivs (dg (X + Y))), (A7, c7, ivs (dg (Y))), (A6, c6, ivs (dg (X)))]) := hid ((S10.out.on hb).more hs)
    clear hb hs S10
    (try simp only [Act.put, List.getElem_toArray, List.getElem_cons_succ, List.getElem_cons_zero, List.setIfInBounds_toArray, List.set_cons_zero, List.set_cons_succ])
    refine wpLA_big (s2) (by rfl) (fun w' => by go_simp) (fun w' hb => Ms2.out _ _ w' (S11.out.on hb).sq.1) ?_
    intro A12 c12 w12 hb hs
    have S12 : Hid (St w w12 [(p2, sA Y, ST), (p1, sA X, ST)] [(A12, c12, ivs (dg (s2))), (A11, c11, ivs (dg (X * Y))), (A10, c10, ivs (dg (s1))), (A9, c9, ivs (dg (X + Y))), (A7, c7, ivs (dg (Y))), (A6, c6, ivs (dg (X)))]) := hid ((S11.out.on hb).more hs)
    clear hb hs S11
    (try simp only [Act.put, List.getElem_toArray, List.getElem_cons_succ, List.getElem_cons_zero, List.setIfInBounds_toArray, List.set_cons_zero, List.set_cons_succ])
    refine wpLA_take (.bool true) (yG_call (by rfl) (fun w' => by go_simp) (fun w' hb => Is2.out A12 c12 w' (S12.out.on hb).sq.1)) ?_
    (try simp only [Act.put, List.getElem_toArray, List.getElem_cons_succ, List.getElem_cons_zero, List.setIfInBounds_toArray, List.set_cons_zero, List.set_cons_succ])
    refine wpLA_take (.bool true) (yG_val _ (by rfl) (fun w' _ => by (go_simp; try rfl))) ?_
    (try simp only [Act.put, List.getElem_toArray, List.getElem_cons_succ, List.getElem_cons_zero, List.setIfInBounds_toArray, List.set_cons_zero, List.set_cons_succ])
    refine wpLA_take (.bool true) (yG_val _ (by rfl) (fun w' _ => by (go_simp; try rfl))) ?_
    (try simp only [Act.put, List.getElem_toArray, List.getElem_cons_succ, List.getElem_cons_zero, List.setIfInBounds_toArray, List.set_cons_zero, List.set_cons_succ])
    refine wpLA_take (.agg (sA X)) (yG_part (by rfl) ST (.tmp 7) rfl p1 0 rfl ST (sA X) (sA X) (0, 0) _ S12.out.cl.2.1 (sA_all _) Try.underlying26 rfl (infoSA _)) ?_
    (try simp only [Act.put, List.getElem_toArray, List.getElem_cons_succ, List.getElem_cons_zero, List.setIfInBounds_toArray, List.set_cons_zero, List.set_cons_succ])
    refine wpLA_take (.agg (sA s3)) (yG_call (by rfl) (fun w' => by go_simp) (fun w' hb => Ks3.out w')) ?_
    (try simp only [Act.put, List.getElem_toArray, List.getElem_cons_succ, List.getElem_cons_zero, List.setIfInBounds_toArray, List.set_cons_zero, List.set_cons_succ])
    refine wpLA_big (ordL) (by rfl) (fun w' => by go_simp) (fun w' hb => Order_any w') ?_
    intro A13 c13 w13 hb hs
    have S13 : Hid (St w w13 [(p2, sA Y, ST), (p1, sA X, ST)] [(A13, c13, ivs (dg (ordL))), (A12, c12, ivs (dg (s2))), (A11, c11, ivs (dg (X * Y))), (A10, c10, ivs (dg (s1))), (A9, c9, ivs (dg (X + Y))), (A7, c7, ivs (dg (Y))), (A6, c6, ivs (dg (X)))]) := hid ((S12.out.on hb).more hs)
    clear hb hs S12
    (try simp only [Act.put, List.getElem_toArray, List.getElem_cons_succ, List.getElem_cons_zero, List.setIfInBounds_toArray, List.set_cons_zero, List.set_cons_succ])
    refine wpLA_take (.slice A6 ((dg (X)).length) c6) (yG_val _ (by rfl) (fun w' _ => by (go_simp; try rfl))) ?_
    (try simp only [Act.put, List.getElem_toArray, List.getElem_cons_succ, List.getElem_cons_zero, List.setIfInBounds_toArray, List.set_cons_zero, List.set_cons_succ])
    refine wpLA_big (ordL - X) (by rfl) (fun w' => by go_simp) (fun w' hb => Sub_any ordL X _ _ _ _ w' (S13.out.on hb).sq.1 (S13.out.on hb).sq.2.2.2.2.2.2.1 (Nat.le_trans HO17.out (by decide)) HXO.out) ?_
    intro A14 c14 w14 hb hs
    have S14 : Hid (St w w14 [(p2, sA Y, ST), (p1, sA X, ST)] [(A14, c14, ivs (dg (ordL - X))), (A13, c13, ivs (dg (ordL))), (A12, c12, ivs (dg (s2))), (A11, c11, ivs (dg (X * Y))), (A10, c10, ivs (dg (s1))), (A9, c9, ivs (dg (X + Y))), (A7, c7, ivs (dg (Y))), (A6, c6, ivs (dg (X)))]) := hid ((S13.out.on hb).more hs)
    clear hb hs S13
    (try simp only [Act.put, List.getElem_toArray, List.getElem_cons_succ, List.getElem_cons_zero, List.setIfInBounds_toArray, List.set_cons_zero, List.set_cons_succ])
    refine wpLA_big (s3) (by rfl) (fun w' => by go_simp) (fun w' hb => Ms3.out _ _ w' (S14.out.on hb).sq.1) ?_
    intro A15 c15 w15 hb hs
    have S15 : Hid (St w w15 [(p2, sA Y, ST), (p1, sA X, ST)] [(A15, c15, ivs (dg (s3))), (A14, c14, ivs (dg (ordL - X))), (A13, c13, ivs (dg (ordL))), (A12, c12, ivs (dg (s2))), (A11, c11, ivs (dg (X * Y))), (A10, c10, ivs (dg (s1))), (A9, c9, ivs (dg (X + Y))), (A7, c7, ivs (dg (Y))), (A6, c6, ivs (dg (X)))]) := hid ((S14.out.on hb).more hs)
    clear hb hs S14
    (try simp only [Act.put, List.getElem_toArray, List.getElem_cons_succ, List.getElem_cons_zero, List.setIfInBounds_toArray, List.set_cons_zero, List.set_cons_succ])
    refine wpLA_take (.bool true) (yG_call (by rfl) (fun w' => by go_simp) (fun w' hb => Is3.out A15 c15 w' (S15.out.on hb).sq.1)) ?_
    (try simp only [Act.put, List.getElem_toArray, List.getElem_cons_succ, List.getElem_cons_zero, List.setIfInBounds_toArray, List.set_cons_zero, List.set_cons_succ])
    refine wpLA_take (.bool true) (yG_val _ (by rfl) (fun w' _ => by (go_simp; try rfl))) ?_
    (try simp only [Act.put, List.getElem_toArray, List.getElem_cons_succ, List.getElem_cons_zero, List.setIfInBounds_toArray, List.set_cons_zero, List.set_cons_succ])
    refine wpLA_take (.bool true) (yG_val _ (by rfl) (fun w' _ => by (go_simp; try rfl))) ?_
    (try simp only [Act.put, List.getElem_toArray, List.getElem_cons_succ, List.getElem_cons_zero, List.setIfInBounds_toArray, List.set_cons_zero, List.set_cons_succ])
    refine wpLA_take (.agg (sA X)) (yG_part (by rfl) ST (.tmp 7) rfl p1 0 rfl ST (sA X) (sA X) (0, 0) _ S15.out.cl.2.1 (sA_all _) Try.underlying26 rfl (infoSA _)) ?_
    (try simp only [Act.put, List.getElem_toArray, List.getElem_cons_succ, List.getElem_cons_zero, List.setIfInBounds_toArray, List.set_cons_zero, List.set_cons_succ])
    refine wpLA_take (.int .i64 (t)) (yG_val _ (by rfl) (fun w' _ => by (go_simp; try rfl))) ?_
    (try simp only [Act.put, List.getElem_toArray, List.getElem_cons_succ, List.getElem_cons_zero, List.setIfInBounds_toArray, List.set_cons_zero, List.set_cons_succ])
    refine wpLA_take (.int .i64 0) (yG_call (by rfl) (fun w' => by go_simp) (fun w' hb => KB.out w')) ?_
    (try simp only [Act.put, List.getElem_toArray, List.getElem_cons_succ, List.getElem_cons_zero, List.setIfInBounds_toArray, List.set_cons_zero, List.set_cons_succ])
    refine wpLA_take (.int .i64 0) (yG_val _ (by rfl) (fun w' _ => by (go_simp; try rfl))) ?_
    (try simp only [Act.put, List.getElem_toArray, List.getElem_cons_succ, List.getElem_cons_zero, List.setIfInBounds_toArray, List.set_cons_zero, List.set_cons_succ])
    refine wpLA_take (.bool true) (yG_val _ (by rfl) (fun w' _ => by (go_simp; try rfl))) ?_
    (try simp only [Act.put, List.getElem_toArray, List.getElem_cons_succ, List.getElem_cons_zero, List.setIfInBounds_toArray, List.set_cons_zero, List.set_cons_succ])
    refine wpLA_take (.bool true) (yG_val _ (by rfl) (fun w' _ => by (go_simp; try rfl))) ?_
    (try simp only [Act.put, List.getElem_toArray, List.getElem_cons_succ, List.getElem_cons_zero, List.setIfInBounds_toArray, List.set_cons_zero, List.set_cons_succ])
    refine wpLA_take (.bool true) (yG_val _ (by rfl) (fun w' _ => by (go_simp; try rfl))) ?_
    (try simp only [Act.put, List.getElem_toArray, List.getElem_cons_succ, List.getElem_cons_zero, List.setIfInBounds_toArray, List.set_cons_zero, List.set_cons_succ])
    refine wpLA_take (.agg (sA X)) (yG_part (by rfl) ST (.tmp 7) rfl p1 0 rfl ST (sA X) (sA X) (0, 0) _ S15.out.cl.2.1 (sA_all _) Try.underlying26 rfl (infoSA _)) ?_
    (try simp only [Act.put, List.getElem_toArray, List.getElem_cons_succ, List.getElem_cons_zero, List.setIfInBounds_toArray, List.set_cons_zero, List.set_cons_succ])
    refine wpLA_take (.agg (sA Y)) (yG_part (by rfl) ST (.tmp 8) rfl p2 0 rfl ST (sA Y) (sA Y) (0, 0) _ S15.out.cl.1 (sA_all _) Try.underlying26 rfl (infoSA _)) ?_
    (try simp only [Act.put, List.getElem_toArray, List.getElem_cons_succ, List.getElem_cons_zero, List.setIfInBounds_toArray, List.set_cons_zero, List.set_cons_succ])
    refine wpLA_take (.bool sm) (yG_call (by rfl) (fun w' => by go_simp) (fun w' hb => KS.out w')) ?_
    (try simp only [Act.put, List.getElem_toArray, List.getElem_cons_succ, List.getElem_cons_zero, List.setIfInBounds_toArray, List.set_cons_zero, List.set_cons_succ])
    refine wpLA_take (.slice A6 ((dg (X)).length) c6) (yG_val _ (by rfl) (fun w' _ => by (go_simp; try rfl))) ?_
    (try simp only [Act.put, List.getElem_toArray, List.getElem_cons_succ, List.getElem_cons_zero, List.setIfInBounds_toArray, List.set_cons_zero, List.set_cons_succ])
    refine wpLA_take (.slice A7 ((dg (Y)).length) c7) (yG_val _ (by rfl) (fun w' _ => by (go_simp; try rfl))) ?_
    (try simp only [Act.put, List.getElem_toArray, List.getElem_cons_succ, List.getElem_cons_zero, List.setIfInBounds_toArray, List.set_cons_zero, List.set_cons_succ])
    refine wpLA_take (.bool sm) (yG_call (by rfl) (fun w' => by go_simp) (fun w' hb => calls_drew (KR.out _ _ _ _ _ _ w' (S15.out.on hb).sq.2.2.2.2.2.2.2.2.1 (S15.out.on hb).sq.2.2.2.2.2.2.2.1))) ?_
    (try simp only [Act.put, List.getElem_toArray, List.getElem_cons_succ, List.getElem_cons_zero, List.setIfInBounds_toArray, List.set_cons_zero, List.set_cons_succ])
    refine wpLA_take (.bool true) (yG_val _ (by rfl) (fun w' _ => by (go_simp; try rfl))) ?_
    (try simp only [Act.put, List.getElem_toArray, List.getElem_cons_succ, List.getElem_cons_zero, List.setIfInBounds_toArray, List.set_cons_zero, List.set_cons_succ])
    refine wpLA_take (.bool true) (yG_val _ (by rfl) (fun w' _ => by (go_simp; try rfl))) ?_
    (try simp only [Act.put, List.getElem_toArray, List.getElem_cons_succ, List.getElem_cons_zero, List.setIfInBounds_toArray, List.set_cons_zero, List.set_cons_succ])
    refine wpLA_take (.bool true) (yG_val _ (by rfl) (fun w' _ => by (go_simp; try rfl))) ?_
    (try simp only [Act.put, List.getElem_toArray, List.getElem_cons_succ, List.getElem_cons_zero, List.setIfInBounds_toArray, List.set_cons_zero, List.set_cons_succ])
    refine wpLA_end ?_
    intro w16 hb
    have S16 := hid (S15.out.on hb)
    clear hb S15
    go_wp2_with fail
    go_ret
    exact ⟨rfl, S16.out.below⟩
end Go.Proofs.Ytacikkhhacladaa
