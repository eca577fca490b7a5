/-
  The statements of layer 14: a tree twice as great.
-/
import Derived.Test.YtaoddlcoedodcaaLaw14d
namespace Go.Proofs.Ytaoddlcoedodcaa
open Go Go.RowKit
set_option linter.unusedVariables false
set_option linter.unusedSimpArgs false
/-- Numbers that lie, of which the number is told. -/
def RetN (W : World) (n : Nat) (xs : List Nat) (e : Ending) (w' : World) : Prop := ∃ A c, e = .returned (.slice A n c) ∧ Sq w' w'.heap.size A c (ivs xs) ∧ Below W.heap.size W w'
theorem retN {P : Program} {f : FuncId} {args : Array Value} {W : World} {n : Nat} {xs ys : List Nat} (hy : ys = xs) (h : Calls P f args W (RetL W ys)) (hn : xs.length = n) : Calls P f args W (RetN W n xs) := by subst hy; subst hn; exact h
theorem SameN {xs ys : List Nat} {n : Nat} (A : Option Addr) (c : Nat) (A' : Option Addr) (c' : Nat) (W : World) (hA : Sq W W.heap.size A c (ivs xs)) (hA' : Sq W W.heap.size A' c' (ivs ys)) (hx : xs.length = n) (he : xs = ys) (hm : n ≤ 1000000) :
    Calls Try.prog 24 #[.slice A n c, .slice A' n c'] W (RetB W true) := by
  subst he; subst hx
  have h := SameR A xs c A' xs c' W hA hA' hm
  rw [beq_self_eq_true] at h
  exact h
theorem sq_takeI {w : World} {B c : Nat} {A : Option Addr} {xs : List Nat} (h : Sq w B A c (ivs xs)) (k : Nat) : Sq w B A c (ivs (xs.take k)) := by
  have h2 := h.take k
  unfold ivs at h2 ⊢
  rw [List.map_take]
  exact h2
theorem sq_numI {w : World} {B c b o : Nat} {xs : List Nat} (h : Sq w B (some ⟨b, o, none⟩) c (ivs xs)) {k y : Nat} (hk : xs[k]? = some y) : w.cell? ⟨b, o + k, none⟩ = some (.int .i64 (y : Int)) := by
  rcases h with ⟨h, -⟩ | ⟨b', o', hA, -, -, -, hc⟩
  · have : xs = [] := by unfold ivs at h; simpa using h
    rw [this] at hk; simp at hk
  · simp only [Option.some.injEq, Addr.mk.injEq] at hA
    obtain ⟨rfl, rfl, _⟩ := hA
    exact hc k _ (by unfold ivs; simp [hk])
theorem sq_capI {w : World} {B c : Nat} {A : Option Addr} {xs : List Nat} (h : Sq w B A c (ivs xs)) (h0 : 0 < xs.length) : ∃ b o, A = some ⟨b, o, none⟩ ∧ b < B ∧ xs.length ≤ c := by
  rcases h with ⟨h, -⟩ | ⟨b', o', hA, hb, hl, -, -⟩
  · have : xs = [] := by unfold ivs at h; simpa using h
    rw [this] at h0; simp at h0
  · exact ⟨b', o', hA, hb, by simpa using hl⟩
theorem grow_nums {q l k : Nat} (hq : q < 2 ^ k) : pathL q l (k + 1) = pathL q l k ++ [2 * 2 ^ (l + k) - 1] ∧ copL q l (k + 1) = copL q l k ++ [3 * 2 ^ (l + k) - 1] := by
  rw [pathL_more, copL_more]
  have h1 : q / 2 ^ k = 0 := Nat.div_eq_of_lt hq
  have h2 : q / 2 ^ (k + 1) = 0 := Nat.div_eq_of_lt (by rw [pow1]; omega)
  rw [h1, h2]
  have e1 : nd 0 (l + k + 1) = 2 * 2 ^ (l + k) - 1 := by unfold nd; rw [Nat.zero_mul, Nat.zero_add, pow1]
  have e2 : nd (sbq 0) (l + k) = 3 * 2 ^ (l + k) - 1 := by
    have := Nat.one_le_two_pow (n := l + k)
    unfold nd sbq; rw [if_pos (by decide), pow1]; omega
  rw [e1, e2]
  exact ⟨rfl, rfl⟩
theorem grows_no (hA : AliveOk) (x n : Int) (w : World) (hF : ∀ W, Calls Try.prog 18 #[.int .i64 n] W (RetB W (fitB n))) (hf : fitB n = false) : Calls Try.prog 8 #[.int .i64 x, .int .i64 n] w (RetB w true) := by
  have HA := hid hA
  have HF := hid hF
  rw [hf] at HF
  clear hf
  clear hA hF
  have HB0 : Hid (Below w.heap.size w w) := hid (Below.refl _ _)
  go_enter Try.func8, Try.ntmps8
  go_wp2_with fail
  refine (HA.out w).mono ?_
  rintro e w1 ⟨rfl, hb⟩
  have HB1 : Hid (Below w.heap.size w w1) := hid (HB0.out.trans (hb.mono HB0.out.size))
  clear hb HB0
  go_wp2_with fail
  refine (HF.out w1).mono ?_
  rintro e w2 ⟨rfl, hb⟩
  have HB2 : Hid (Below w.heap.size w w2) := hid (HB1.out.trans (hb.mono HB1.out.size))
  clear hb HB1
  go_wp2
  go_ret
  exact ⟨rfl, HB2.out⟩
theorem grows_big (hA : AliveOk) (x n : Int) (w : World) (hF : ∀ W, Calls Try.prog 18 #[.int .i64 n] W (RetB W (fitB n))) (hf : fitB n = true) (hb : 32768 < n) : Calls Try.prog 8 #[.int .i64 x, .int .i64 n] w (RetB w true) := by
  have HA := hid hA
  have HF := hid hF
  rw [hf] at HF
  clear hf
  clear hA hF
  have HB0 : Hid (Below w.heap.size w w) := hid (Below.refl _ _)
  go_enter Try.func8, Try.ntmps8
  go_wp2_with fail
  refine (HA.out w).mono ?_
  rintro e w1 ⟨rfl, hb⟩
  have HB1 : Hid (Below w.heap.size w w1) := hid (HB0.out.trans (hb.mono HB0.out.size))
  clear hb HB0
  go_wp2_with fail
  refine (HF.out w1).mono ?_
  rintro e w2 ⟨rfl, hb⟩
  have HB2 : Hid (Below w.heap.size w w2) := hid (HB1.out.trans (hb.mono HB1.out.size))
  clear hb HB1
  go_wp2
  go_ret
  exact ⟨rfl, HB2.out⟩
theorem grows_neg (hA : AliveOk) (x n : Int) (w : World) (hF : ∀ W, Calls Try.prog 18 #[.int .i64 n] W (RetB W (fitB n))) (hf : fitB n = true) (hb : ¬ 32768 < n) (h0 : x < 0) : Calls Try.prog 8 #[.int .i64 x, .int .i64 n] w (RetB w true) := by
  have HA := hid hA
  have HF := hid hF
  rw [hf] at HF
  clear hf
  clear hA hF
  have HB0 : Hid (Below w.heap.size w w) := hid (Below.refl _ _)
  go_enter Try.func8, Try.ntmps8
  go_wp2_with fail
  refine (HA.out w).mono ?_
  rintro e w1 ⟨rfl, hb⟩
  have HB1 : Hid (Below w.heap.size w w1) := hid (HB0.out.trans (hb.mono HB0.out.size))
  clear hb HB0
  go_wp2_with fail
  refine (HF.out w1).mono ?_
  rintro e w2 ⟨rfl, hb⟩
  have HB2 : Hid (Below w.heap.size w w2) := hid (HB1.out.trans (hb.mono HB1.out.size))
  clear hb HB1
  go_wp2
  go_ret
  exact ⟨rfl, HB2.out⟩
theorem grows_off (hA : AliveOk) (x n : Int) (w : World) (hF : ∀ W, Calls Try.prog 18 #[.int .i64 n] W (RetB W (fitB n))) (hf : fitB n = true) (hb : ¬ 32768 < n) (h0 : ¬ x < 0) (h1 : 2 * n - 2 < x) : Calls Try.prog 8 #[.int .i64 x, .int .i64 n] w (RetB w true) := by
  have HA := hid hA
  have HF := hid hF
  rw [hf] at HF
  have hs := fit_small hf
  have hw1 : wrap64 (2 * n) = 2 * n := wrap64_in (by omega) (by omega)
  have hw2 : wrap64 (2 * n - 2) = 2 * n - 2 := wrap64_in (by omega) (by omega)
  clear hf hs
  clear hA hF
  have HB0 : Hid (Below w.heap.size w w) := hid (Below.refl _ _)
  go_enter Try.func8, Try.ntmps8
  go_wp2_with fail
  refine (HA.out w).mono ?_
  rintro e w1 ⟨rfl, hb⟩
  have HB1 : Hid (Below w.heap.size w w1) := hid (HB0.out.trans (hb.mono HB0.out.size))
  clear hb HB0
  go_wp2_with fail
  refine (HF.out w1).mono ?_
  rintro e w2 ⟨rfl, hb⟩
  have HB2 : Hid (Below w.heap.size w w2) := hid (HB1.out.trans (hb.mono HB1.out.size))
  clear hb HB1
  go_wp2
  go_ret
  exact ⟨rfl, HB2.out⟩
set_option maxHeartbeats 2000000 in
theorem grows_in (hA : AliveOk) (q l k : Nat) (hq : q < 2 ^ k) (hk : l + k ≤ 15) (x n : Int) (hx : x = (nd q l : Int)) (hn : n = ((2 ^ (l + k) : Nat) : Int)) (w : World) (hF : ∀ W, Calls Try.prog 18 #[.int .i64 n] W (RetB W (fitB n)))
    (hT1 : ∀ W, Calls Try.prog 25 #[.int .i64 x, .int .i64 n] W (RetL W (pathZ x n))) (hT2 : ∀ W, Calls Try.prog 25 #[.int .i64 x, .int .i64 (2 * n)] W (RetL W (pathZ x (2 * n))))
    (hC1 : ∀ W, Calls Try.prog 27 #[.int .i64 x, .int .i64 n] W (RetL W (copZ x n))) (hC2 : ∀ W, Calls Try.prog 27 #[.int .i64 x, .int .i64 (2 * n)] W (RetL W (copZ x (2 * n)))) : Calls Try.prog 8 #[.int .i64 x, .int .i64 n] w (RetB w true) := by
  have HA := hid hA
  have hf : fitB n = true := by rw [hn]; exact fitB_pow (by omega)
  have HF := hid hF
  rw [hf] at HF
  have hs := fit_small hf
  have hnb : n ≤ 32768 := by
    have h : 2 ^ (l + k) ≤ 2 ^ 15 := Nat.pow_le_pow_right (by decide) hk
    rw [hn]; omega
  have h2n : 2 * n = ((2 ^ (l + (k + 1)) : Nat) : Int) := by rw [hn, show l + (k + 1) = l + k + 1 by omega, pow1]; omega
  have hq1 : q < 2 ^ (k + 1) := by rw [pow1]; omega
  have z1 : pathZ x n = pathL q l k := by rw [hx, hn]; exact pathZ_nd hq (by omega)
  have z2 : pathZ x (2 * n) = pathL q l (k + 1) := by rw [hx, h2n]; exact pathZ_nd hq1 (by omega)
  have z3' : copZ x n = copL q l k := by rw [hx, hn]; exact copZ_nd hq (by omega)
  have z4 : copZ x (2 * n) = copL q l (k + 1) := by rw [hx, h2n]; exact copZ_nd hq1 (by omega)
  obtain ⟨g1, g2⟩ := grow_nums (l := l) hq
  obtain ⟨LP, hLP⟩ : ∃ L, L = pathL q l k := ⟨_, rfl⟩
  obtain ⟨LC, hLC⟩ : ∃ L, L = copL q l k := ⟨_, rfl⟩
  obtain ⟨T, hT⟩ : ∃ T, T = 2 * 2 ^ (l + k) - 1 := ⟨_, rfl⟩
  obtain ⟨U, hU⟩ : ∃ T, T = 3 * 2 ^ (l + k) - 1 := ⟨_, rfl⟩
  rw [← hLP, ← hT] at g1
  rw [← hLC, ← hU] at g2
  have l1 : LP.length = k := by rw [hLP]; exact pathL_length _ _ _
  have l2 : LC.length = k := by rw [hLC]; exact copL_length _ _ _
  have HT1 := hid (fun W => retN (z1.trans hLP.symm) (hT1 W) l1)
  have HT2 := hid (fun W => retN (z2.trans g1) (hT2 W) (n := k + 1) (by rw [List.length_append, l1]; rfl))
  have HC1 := hid (fun W => retN (z3'.trans hLC.symm) (hC1 W) l2)
  have HC2 := hid (fun W => retN (z4.trans g2) (hC2 W) (n := k + 1) (by rw [List.length_append, l2]; rfl))
  have LQ : Hid ((LP ++ [T]).length = k + 1) := hid (by rw [List.length_append, l1]; rfl)
  have LD : Hid ((LC ++ [U]).length = k + 1) := hid (by rw [List.length_append, l2]; rfl)
  have EQT : Hid ((LP ++ [T]).take k = LP) := hid (by rw [List.take_append_of_le_length (by omega), List.take_of_length_le (by omega)])
  have EDT : Hid ((LC ++ [U]).take k = LC) := hid (by rw [List.take_append_of_le_length (by omega), List.take_of_length_le (by omega)])
  have LQT : Hid (((LP ++ [T]).take k).length = k) := hid (by rw [EQT.out, l1])
  have LDT : Hid (((LC ++ [U]).take k).length = k) := hid (by rw [EDT.out, l2])
  have GQ : Hid ((LP ++ [T])[k]? = some T) := hid (by rw [List.getElem?_append_right (by omega), l1]; simp)
  have GD : Hid ((LC ++ [U])[k]? = some U) := hid (by rw [List.getElem?_append_right (by omega), l2]; simp)
  have LK : Hid (k ≤ 1000000) := hid (by omega)
  have ET : Hid ((T : Int) = 2 * n - 1) := hid (by rw [hn, hT]; have := Nat.one_le_two_pow (n := l + k); omega)
  have EU : Hid ((U : Int) = 3 * n - 1) := hid (by rw [hn, hU]; have := Nat.one_le_two_pow (n := l + k); omega)
  have hb : ¬ 32768 < n := by omega
  have h0 : ¬ x < 0 := by omega
  have h1 : ¬ 2 * n - 2 < x := by
    have h2 := hi_bound (l := l) hq
    have h3 := le_hi q l
    omega
  have hw1 : wrap64 (2 * n) = 2 * n := wrap64_in (by omega) (by omega)
  have hw2 : wrap64 (2 * n - 2) = 2 * n - 2 := wrap64_in (by omega) (by omega)
  have hw3 : wrap64 (2 * n - 1) = 2 * n - 1 := wrap64_in (by omega) (by omega)
  have hw4 : wrap64 (3 * n) = 3 * n := wrap64_in (by omega) (by omega)
  have hw5 : wrap64 (3 * n - 1) = 3 * n - 1 := wrap64_in (by omega) (by omega)
  have hw6 : wrap64 ((k : Int) + 1) = (k : Int) + 1 := wrap64_in (by omega) (by omega)
  clear hA hF hf hs hnb h2n hq1 z1 z2 z3' z4 g1 g2 hLP hLC hT hU l1 l2 hT1 hT2 hC1 hC2 hq hk hx hn
  have HB0 : Hid (Below w.heap.size w w) := hid (Below.refl _ _)
  go_enter Try.func8, Try.ntmps8
  go_wp2_with fail
  refine (HA.out w).mono ?_
  rintro e w1 ⟨rfl, hb⟩
  have HB1 : Hid (Below w.heap.size w w1) := hid (HB0.out.trans (hb.mono HB0.out.size))
  clear hb HB0
  go_wp2_with fail
  refine (HF.out w1).mono ?_
  rintro e w2 ⟨rfl, hb⟩
  have HB2 : Hid (Below w.heap.size w w2) := hid (HB1.out.trans (hb.mono HB1.out.size))
  clear hb HB1
  go_wp2_with fail
  refine (HT1.out w2).mono ?_
  rintro e w3 ⟨AP, cAP, rfl, hq, hb⟩
  have HB3 : Hid (Below w.heap.size w w3) := hid (HB2.out.trans (hb.mono HB2.out.size))
  have QAP := hid hq
  clear hb hq HB2
  go_wp2_with fail
  refine (HT2.out w3).mono ?_
  rintro e w4 ⟨AQ, cAQ, rfl, hq, hb⟩
  have HB4 : Hid (Below w.heap.size w w4) := hid (HB3.out.trans (hb.mono HB3.out.size))
  have QAP := hid (sq_onI QAP.out hb)
  have QAQ := hid hq
  clear hb hq HB3
  go_wp2_with fail
  refine (HC1.out w4).mono ?_
  rintro e w5 ⟨AC, cAC, rfl, hq, hb⟩
  have HB5 : Hid (Below w.heap.size w w5) := hid (HB4.out.trans (hb.mono HB4.out.size))
  have QAP := hid (sq_onI QAP.out hb)
  have QAQ := hid (sq_onI QAQ.out hb)
  have QAC := hid hq
  clear hb hq HB4
  go_wp2_with fail
  refine (HC2.out w5).mono ?_
  rintro e w6 ⟨AD, cAD, rfl, hq, hb⟩
  have HB6 : Hid (Below w.heap.size w w6) := hid (HB5.out.trans (hb.mono HB5.out.size))
  have QAP := hid (sq_onI QAP.out hb)
  have QAQ := hid (sq_onI QAQ.out hb)
  have QAC := hid (sq_onI QAC.out hb)
  have QAD := hid hq
  clear hb hq HB5
  obtain ⟨bq, oq, rfl, hbq, hcq⟩ := sq_capI QAQ.out (by rw [LQ.out]; omega)
  obtain ⟨bd, od, rfl, hbd, hcd⟩ := sq_capI QAD.out (by rw [LD.out]; omega)
  rw [LQ.out] at hcq
  rw [LD.out] at hcd
  have hkq : (k : Int) ≤ (cAQ : Int) := by omega
  have hkd : (k : Int) ≤ (cAD : Int) := by omega
  have hk0 : (0 : Int) ≤ (k : Int) := by omega
  have hkq2 : k ≤ cAQ := by omega
  have hkd2 : k ≤ cAD := by omega
  have hkk : k < k + 1 := by omega
  have hkk2 : (k : Int) < (k : Int) + 1 := by omega
  clear hbq hbd hcq hcd
  go_wp2_with fail
  refine (SameN _ cAQ AP cAP w6 (sq_takeI QAQ.out k) QAP.out LQT.out EQT.out LK.out).mono ?_
  rintro e w7 ⟨rfl, hb⟩
  have HB7 : Hid (Below w.heap.size w w7) := hid (HB6.out.trans (hb.mono HB6.out.size))
  have QAP := hid (sq_onI QAP.out hb)
  have QAQ := hid (sq_onI QAQ.out hb)
  have QAC := hid (sq_onI QAC.out hb)
  have QAD := hid (sq_onI QAD.out hb)
  clear hb HB6
  go_wp2_with fail
  refine (SameN _ cAD AC cAC w7 (sq_takeI QAD.out k) QAC.out LDT.out EDT.out LK.out).mono ?_
  rintro e w8 ⟨rfl, hb⟩
  have HB8 : Hid (Below w.heap.size w w8) := hid (HB7.out.trans (hb.mono HB7.out.size))
  have QAP := hid (sq_onI QAP.out hb)
  have QAQ := hid (sq_onI QAQ.out hb)
  have QAC := hid (sq_onI QAC.out hb)
  have QAD := hid (sq_onI QAD.out hb)
  clear hb HB7
  have hcell1 := sq_numI QAQ.out GQ.out
  have hcell2 := sq_numI QAD.out GD.out
  rw [ET.out] at hcell1
  rw [EU.out] at hcell2
  go_wp2
  go_ret
  exact ⟨rfl, HB8.out⟩
theorem walkGrows_any (hA : AliveOk) (hF : WFits) (hT : WPath) (hC : WCopath) (x n : Int) (w : World) (hx : I64 x) (hn : I64 n) : Calls Try.prog 8 #[.int .i64 x, .int .i64 n] w (RetB w true) := by
  by_cases hf : fitB n = true
  · by_cases hb : 32768 < n
    · exact grows_big hA x n w (fun W => hF n W hn) hf hb
    · by_cases h0 : x < 0
      · exact grows_neg hA x n w (fun W => hF n W hn) hf hb h0
      · by_cases h1 : 2 * n - 2 < x
        · exact grows_off hA x n w (fun W => hF n W hn) hf hb h0 h1
        · obtain ⟨q, l, k, hq, hk, he, hne⟩ := inT_of hf (by omega) (by omega : x ≤ 2 * n - 2)
          have hk15 : l + k ≤ 15 := by
            rcases Nat.lt_or_ge 15 (l + k) with h | h
            · have h2 : 2 ^ 16 ≤ 2 ^ (l + k) := Nat.pow_le_pow_right (by decide) h
              omega
            · exact h
          have hs := fit_small hf
          have h2n : I64 (2 * n) := ⟨by omega, by omega⟩
          exact grows_in hA q l k hq hk15 x n he hne w (fun W => hF n W hn) (fun W => hT x n W hx hn) (fun W => hT x (2 * n) W hx h2n) (fun W => hC x n W hx hn) (fun W => hC x (2 * n) W hx h2n)
  · exact grows_no hA x n w (fun W => hF n W hn) (by simpa using hf)
end Go.Proofs.Ytaoddlcoedodcaa
