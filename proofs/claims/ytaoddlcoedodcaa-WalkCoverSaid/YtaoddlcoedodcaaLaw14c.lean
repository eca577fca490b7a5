/-
  The statements of layer 14: any tree, any two.
-/
import Derived.Test.YtaoddlcoedodcaaLaw14b
namespace Go.Proofs.Ytaoddlcoedodcaa
open Go Go.RowKit
set_option linter.unusedVariables false
set_option linter.unusedSimpArgs false
theorem comO_sym (q l k q' l' k' : Nat) (h : l + k = l' + k') : ∀ i, i ≤ min k k' + 1 → comO q l k q' k' i = comO q' l' k' q k i := by
  intro i
  induction i with
  | zero => intro _; rfl
  | succ i ih =>
    intro hi
    unfold comO
    by_cases he : q / 2 ^ (k - i) = q' / 2 ^ (k' - i)
    · rw [if_pos he, if_pos he.symm, he, show l + (k - i) = l' + (k' - i) by omega]
    · rw [if_neg he, if_neg (fun h => he h.symm)]
      exact ih (by omega)
theorem common_comm (x y n : Int) : commonZ x y n = commonZ y x n := by
  by_cases h : inT x n
  · by_cases h' : inT y n
    · obtain ⟨q, l, k, hq, hk, rfl, rfl⟩ := h
      obtain ⟨q', l', k', hq', hk', rfl, he⟩ := h'
      have he' : l' + k' = l + k := pow2_inj (by omega)
      have h2 := commonZ_nd hq' (l := l') (k := k') hk' hq he'.symm
      rw [commonZ_nd hq hk hq' he', ← he', h2, comO_sym q l k q' l' k' he'.symm _ (Nat.le_refl _), Nat.min_comm]
    · rw [commonZ_no (.inr h'), commonZ_no (.inl h')]
  · rw [commonZ_no (.inl h), commonZ_no (.inr h)]
set_option maxHeartbeats 1000000 in
theorem walkTree_any (hA : AliveOk) (hP : WParent) (hS : WSibling) (hT : WPath) (hC : WCopath) (x n : Int) (w : World) (hx : I64 x) (hn : I64 n) :
    Calls Try.prog 4 #[.int .i64 x, .int .i64 n] w (RetB w true) := by
  have HA := hid hA; have HP := hid (fun W => hP x n W hx hn); have HS := hid (fun W => hS x n W hx hn); have HT := hid (fun W => hT x n W hx hn); have HC := hid (fun W => hC x n W hx hn)
  have hs1 : (pathZ x n == pathZ x n) = true := by simp
  have hs2 : (copZ x n == copZ x n) = true := by simp
  clear hA hP hS hT hC hx hn
  have HB0 : Hid (Below w.heap.size w w) := hid (Below.refl _ _)
  go_enter Try.func4, Try.ntmps4
  go_wp2_with fail
  refine (HA.out w).mono ?_
  rintro e w1 ⟨rfl, hb⟩
  have HB1 : Hid (Below w.heap.size w w1) := hid (HB0.out.trans (hb.mono HB0.out.size))
  clear hb HB0
  go_wp2_with fail
  refine (HP.out w1).mono ?_
  rintro e w2 ⟨rfl, hb⟩
  have HB2 : Hid (Below w.heap.size w w2) := hid (HB1.out.trans (hb.mono HB1.out.size))
  clear hb HB1
  go_wp2_with fail
  refine (ParentR x n w2).mono ?_
  rintro e w3 ⟨rfl, hb⟩
  have HB3 : Hid (Below w.heap.size w w3) := hid (HB2.out.trans (hb.mono HB2.out.size))
  clear hb HB2
  go_wp2_with fail
  refine (HS.out w3).mono ?_
  rintro e w4 ⟨rfl, hb⟩
  have HB4 : Hid (Below w.heap.size w w4) := hid (HB3.out.trans (hb.mono HB3.out.size))
  clear hb HB3
  go_wp2_with fail
  refine (SiblingR x n w4).mono ?_
  rintro e w5 ⟨rfl, hb⟩
  have HB5 : Hid (Below w.heap.size w w5) := hid (HB4.out.trans (hb.mono HB4.out.size))
  clear hb HB4
  go_wp2_with fail
  refine (HT.out w5).mono ?_
  rintro e w6 ⟨AT, cAT, rfl, hq, hb⟩
  have HB6 : Hid (Below w.heap.size w w6) := hid (HB5.out.trans (hb.mono HB5.out.size))
  have QAT := hid hq
  clear hb hq HB5
  go_wp2_with fail
  refine (PathRL x n w6).mono ?_
  rintro e w7 ⟨AU, cAU, rfl, hq, hb⟩
  have HB7 : Hid (Below w.heap.size w w7) := hid (HB6.out.trans (hb.mono HB6.out.size))
  have QAT := hid (sq_onI QAT.out hb)
  have QAU := hid hq
  clear hb hq HB6
  go_wp2_with fail
  refine (SameR AT (pathZ x n) cAT AU (pathZ x n) cAU w7 QAT.out QAU.out (Nat.le_trans (pathZ_le x n) (by decide))).mono ?_
  rintro e w8 ⟨rfl, hb⟩
  have HB8 : Hid (Below w.heap.size w w8) := hid (HB7.out.trans (hb.mono HB7.out.size))
  have QAT := hid (sq_onI QAT.out hb)
  have QAU := hid (sq_onI QAU.out hb)
  clear hb HB7
  clear QAT QAU
  go_wp2_with fail
  refine (HC.out w8).mono ?_
  rintro e w9 ⟨AV, cAV, rfl, hq, hb⟩
  have HB9 : Hid (Below w.heap.size w w9) := hid (HB8.out.trans (hb.mono HB8.out.size))
  have QAV := hid hq
  clear hb hq HB8
  go_wp2_with fail
  refine (CopathRL x n w9).mono ?_
  rintro e w10 ⟨AW, cAW, rfl, hq, hb⟩
  have HB10 : Hid (Below w.heap.size w w10) := hid (HB9.out.trans (hb.mono HB9.out.size))
  have QAV := hid (sq_onI QAV.out hb)
  have QAW := hid hq
  clear hb hq HB9
  go_wp2_with fail
  refine (SameR AV (copZ x n) cAV AW (copZ x n) cAW w10 QAV.out QAW.out (Nat.le_trans (copZ_le x n) (by decide))).mono ?_
  rintro e w11 ⟨rfl, hb⟩
  have HB11 : Hid (Below w.heap.size w w11) := hid (HB10.out.trans (hb.mono HB10.out.size))
  have QAV := hid (sq_onI QAV.out hb)
  have QAW := hid (sq_onI QAW.out hb)
  clear hb HB10
  go_wp2
  go_ret
  exact ⟨rfl, HB11.out⟩
set_option maxHeartbeats 1000000 in
theorem walkTwo_any (hA : AliveOk) (hM : WCommon) (hU : WUnder) (x y n : Int) (w : World) (hx : I64 x) (hy : I64 y) (hn : I64 n) :
    Calls Try.prog 5 #[.int .i64 x, .int .i64 y, .int .i64 n] w (RetB w true) := by
  have HA := hid hA; have HM := hid (fun W => hM x y n W hx hy hn); have HM2 := hid (fun W => hM y x n W hy hx hn); have HU := hid (fun W => hU x y W hx hy)
  rw [common_comm y x n] at HM2
  clear hA hM hU hx hy hn
  have HB0 : Hid (Below w.heap.size w w) := hid (Below.refl _ _)
  go_enter Try.func5, Try.ntmps5
  go_wp2_with fail
  refine (HA.out w).mono ?_
  rintro e w1 ⟨rfl, hb⟩
  have HB1 : Hid (Below w.heap.size w w1) := hid (HB0.out.trans (hb.mono HB0.out.size))
  clear hb HB0
  go_wp2_with fail
  refine (HM.out w1).mono ?_
  rintro e w2 ⟨rfl, hb⟩
  have HB2 : Hid (Below w.heap.size w w2) := hid (HB1.out.trans (hb.mono HB1.out.size))
  clear hb HB1
  go_wp2_with fail
  refine (CommonR x y n w2).mono ?_
  rintro e w3 ⟨rfl, hb⟩
  have HB3 : Hid (Below w.heap.size w w3) := hid (HB2.out.trans (hb.mono HB2.out.size))
  clear hb HB2
  go_wp2_with fail
  refine (HM2.out w3).mono ?_
  rintro e w4 ⟨rfl, hb⟩
  have HB4 : Hid (Below w.heap.size w w4) := hid (HB3.out.trans (hb.mono HB3.out.size))
  clear hb HB3
  go_wp2_with fail
  refine (HM.out w4).mono ?_
  rintro e w5 ⟨rfl, hb⟩
  have HB5 : Hid (Below w.heap.size w w5) := hid (HB4.out.trans (hb.mono HB4.out.size))
  clear hb HB4
  go_wp2_with fail
  refine (HU.out w5).mono ?_
  rintro e w6 ⟨rfl, hb⟩
  have HB6 : Hid (Below w.heap.size w w6) := hid (HB5.out.trans (hb.mono HB5.out.size))
  clear hb HB5
  go_wp2_with fail
  refine (UnderR x y w6).mono ?_
  rintro e w7 ⟨rfl, hb⟩
  have HB7 : Hid (Below w.heap.size w w7) := hid (HB6.out.trans (hb.mono HB6.out.size))
  clear hb HB6
  go_wp2
  go_ret
  exact ⟨rfl, HB7.out⟩
end Go.Proofs.Ytaoddlcoedodcaa
