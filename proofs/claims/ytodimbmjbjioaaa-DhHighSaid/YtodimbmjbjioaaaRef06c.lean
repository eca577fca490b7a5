/-
  The document's numbers modulo the prime: products, sums, differences; of bytes; which are the same.
-/
import Derived.Test.YtodimbmjbjioaaaRef06b
import Derived.Test.YtodimbmjbjioaaaFld7
namespace Go.Proofs.Ytodimbmjbjioaaa
open Go.RowKit
set_option linter.unusedVariables false
set_option linter.unusedSimpArgs false

theorem pp_dig : pp < 32768 ^ 17 := by rw [pow17]; omega
theorem dg17 (n : Nat) (h : n < pp) : (dg n).length ≤ 17 := (dg_length_le n 17).2 (Nat.lt_trans h pp_dig)
theorem mul_dig {a b : Nat} (ha : a < pp) (hb : b < pp) : a * b < 32768 ^ 50 := by
  have h := Nat.mul_lt_mul'' (Nat.lt_trans ha pp_dig) (Nat.lt_trans hb pp_dig)
  exact Nat.lt_trans h (by decide +kernel)
theorem add_dig {a b : Nat} (ha : a ≤ 2 * pp) (hb : b ≤ 2 * pp) : a + b < 32768 ^ 50 := by
  have h : 4 * pp < 32768 ^ 50 := by decide +kernel
  omega

theorem Mul6_any (a b : Nat) (A A' : Option Addr) (c c' : Nat) (w : World) (hS : Sq w w.heap.size A c (ivs (dg a))) (hS' : Sq w w.heap.size A' c' (ivs (dg b))) (ha : a < pp) (hb : b < pp) :
    Calls Try.prog 22 #[.slice A (dg a).length c, .slice A' (dg b).length c'] w (BigR w (a * b % pp)) := by
  have C := hid (Mul_any a b A A' c c' w hS hS' (Nat.le_trans (dg17 a ha) (by omega)) (Nat.le_trans (dg17 b hb) (by omega)))
  have D := hid (fun A c W h => Mod_any (a * b) A c W h (mul_dig ha hb))
  clear hS hS' ha hb
  go_enter Try.func22, Try.ntmps22
  go_wp2_with fail
  refine C.out.mono ?_
  rintro e w1 ⟨A1, c1, rfl, hS1, hb1⟩
  have HS1 := hid hS1; have HB1 := hid hb1
  clear hS1 hb1 C
  go_wp2_with fail
  refine (D.out _ _ _ HS1.out).mono ?_
  rintro e w2 ⟨A2, c2, rfl, hS2, hb2⟩
  have HS2 := hid hS2; have HB2 := hid (HB1.out.trans (hb2.mono HB1.out.size))
  clear hS2 hb2
  go_wp2
  go_ret
  exact ⟨A2, c2, rfl, HS2.out, HB2.out⟩
theorem Add6_any (a b : Nat) (A A' : Option Addr) (c c' : Nat) (w : World) (hS : Sq w w.heap.size A c (ivs (dg a))) (hS' : Sq w w.heap.size A' c' (ivs (dg b))) (ha : a < pp) (hb : b < pp) :
    Calls Try.prog 20 #[.slice A (dg a).length c, .slice A' (dg b).length c'] w (BigR w ((a + b) % pp)) := by
  have C := hid (Add_any a b A A' c c' w hS hS' (Nat.le_trans (dg17 a ha) (by omega)) (Nat.le_trans (dg17 b hb) (by omega)))
  have D := hid (fun A c W h => Mod_any (a + b) A c W h (add_dig (by omega) (by omega)))
  clear hS hS' ha hb
  go_enter Try.func20, Try.ntmps20
  go_wp2_with fail
  refine C.out.mono ?_
  rintro e w1 ⟨A1, c1, rfl, hS1, hb1⟩
  have HS1 := hid hS1; have HB1 := hid hb1
  clear hS1 hb1 C
  go_wp2_with fail
  refine (D.out _ _ _ HS1.out).mono ?_
  rintro e w2 ⟨A2, c2, rfl, hS2, hb2⟩
  have HS2 := hid hS2; have HB2 := hid (HB1.out.trans (hb2.mono HB1.out.size))
  clear hS2 hb2
  go_wp2
  go_ret
  exact ⟨A2, c2, rfl, HS2.out, HB2.out⟩
theorem Sub6_any (a b : Nat) (A A' : Option Addr) (c c' : Nat) (w : World) (hS : Sq w w.heap.size A c (ivs (dg a))) (hS' : Sq w w.heap.size A' c' (ivs (dg b))) (ha : a < pp) (hb : b < pp) :
    Calls Try.prog 21 #[.slice A (dg a).length c, .slice A' (dg b).length c'] w (BigR w ((a + (pp - b)) % pp)) := by
  have HP := hid P_any
  have LA := hid (Nat.le_trans (dg17 a ha) (show 17 ≤ 1073741824 by omega))
  have LP : Hid ((dg pp).length ≤ 1073741824) := hid (Nat.le_trans ((dg_length_le pp 17).2 pp_dig) (by omega))
  have LS : Hid ((dg (a + pp)).length ≤ 1073741824) := hid (Nat.le_trans (dgl6 _ (add_dig (by omega) (by omega))) (by omega))
  have D := hid (fun A c W h => Mod_any (a + pp - b) A c W h (Nat.lt_of_le_of_lt (Nat.sub_le _ _) (add_dig (a := a) (b := pp) (by omega) (by omega))))
  have hle : b ≤ a + pp := by omega
  have HLE := hid hle
  have hres : (a + pp - b) % pp = (a + (pp - b)) % pp := by congr 1; omega
  have HR := hid hres
  have HS := hid hS; have HS' := hid hS'
  clear hS hS' ha hb hle hres
  go_enter Try.func21, Try.ntmps21
  go_wp2_with fail
  refine (HP.out _).mono ?_
  rintro e w1 ⟨A1, c1, rfl, hS1, hb1⟩
  have HS1 := hid hS1; have HB1 := hid hb1; have HSa := hid (HS.out.on6 hb1); have HSb := hid (HS'.out.on6 hb1)
  clear hS1 hb1 HS HS'
  go_wp2_with fail
  refine (Add_any a pp A A1 c c1 w1 HSa.out HS1.out LA.out LP.out).mono ?_
  rintro e w2 ⟨A2, c2, rfl, hS2, hb2⟩
  have HS2 := hid hS2; have HB2 := hid (HB1.out.trans (hb2.mono HB1.out.size)); have HSb2 := hid (HSb.out.on6 hb2)
  clear hS2 hb2 HSa HSb HS1 HB1
  go_wp2_with fail
  refine (Sub_any (a + pp) b A2 A' c2 c' w2 HS2.out HSb2.out LS.out HLE.out).mono ?_
  rintro e w3 ⟨A3, c3, rfl, hS3, hb3⟩
  have HS3 := hid hS3; have HB3 := hid (HB2.out.trans (hb3.mono HB2.out.size))
  clear hS3 hb3 HS2 HSb2 HB2
  go_wp2_with fail
  refine (D.out _ _ _ HS3.out).mono ?_
  rw [HR.out]
  rintro e w4 ⟨A4, c4, rfl, hS4, hb4⟩
  have HS4 := hid hS4; have HB4 := hid (HB3.out.trans (hb4.mono HB3.out.size))
  clear hS4 hb4
  go_wp2
  go_ret
  exact ⟨A4, c4, rfl, HS4.out, HB4.out⟩

end Go.Proofs.Ytodimbmjbjioaaa
