/-
  Texts of this claim in one file: DhS, DhN, Dh4, DhI.
-/
import Derived.Test.YtpkmidaflnbobaaGreatDoorPk3
import Derived.Test.YtpkmidaflnbobaaGreatDoorPk14
import Derived.Test.YtpkmidaflnbobaaGreatDoorPk15
import Derived.Test.YtpkmidaflnbobaaGreatDoorPk43
import Derived.Test.YtpkmidaflnbobaaGreatDoorPk18
import Derived.Test.YtpkmidaflnbobaaGreatDoorPk17
import Derived.Test.YtpkmidaflnbobaaGreatDoorPk41
import Derived.Test.YtpkmidaflnbobaaGreatDoorPk4
import Derived.Deep.DeepCutAuto
import Derived.Deep.OwnRows
import Derived.Laws.BitsAllLaws
import Derived.Test.YtpkmidaflnbobaaGreatDoorPk13
import Derived.Test.YtpkmidaflnbobaaGreatDoorPk10
section
namespace Go.Proofs.YtpkmidaflnbobaaGreatDoor
open Go.RowKit
set_option linter.unusedVariables false
set_option linter.unusedSimpArgs false
set_option exponentiation.threshold 600
/-- The number of a point's bytes. -/
def uF (pt : List UInt8) : FF := ⟨ofN pt, ofN_lt pt⟩
/-- The product's bytes. -/
def dhV (key pt : List UInt8) : List UInt8 := leB 32 (ladOut (uF pt) (leN (clampB key))).val
theorem dhV_length (key pt : List UInt8) : (dhV key pt).length = 32 := leB_length 32 _
def z32 : List UInt8 := List.replicate 32 0
def b32 (x : UInt8) : List UInt8 := x :: List.replicate 31 0
theorem z32_length : z32.length = 32 := rfl
theorem b32_length (x : UInt8) : (b32 x).length = 32 := rfl
theorem uF_nine : uF (b32 9) = 9 := Fin.ext (by decide +kernel)
theorem uF_zero : uF z32 = 0 := Fin.ext (by decide +kernel)
theorem leB_zero : leB 32 0 = z32 := by decide +kernel
theorem clampB_even (xs : List UInt8) : leN (clampB xs) % 2 = 0 ∧ leN (clampB xs) < 2 ^ 255 := by
  obtain ⟨ps, hps⟩ : ∃ ps, ps = pad32 xs := ⟨_, rfl⟩
  have hl : ps.length = 32 := by rw [hps]; exact pad32_length xs
  unfold clampB
  rw [← hps]
  rcases ps with _ | ⟨a, qs⟩
  · simp at hl
  have hq : qs.length = 31 := by simpa using hl
  obtain ⟨rs, y, rfl⟩ : ∃ rs y, qs = rs ++ [y] := ⟨qs.dropLast, qs.getLast (by intro h; rw [h] at hq; simp at hq), (List.dropLast_concat_getLast _).symm⟩
  have hr : rs.length = 30 := by simpa using hq
  have e : (((a :: (rs ++ [y])).set 0 (UInt8.ofNat (((a :: (rs ++ [y])).getD 0 0).toNat / 8 * 8))).set 31 (UInt8.ofNat (((a :: (rs ++ [y])).getD 31 0).toNat % 64 + 64))) =
      UInt8.ofNat (a.toNat / 8 * 8) :: (rs ++ [UInt8.ofNat (y.toNat % 64 + 64)]) := by
    have h31 : (a :: (rs ++ [y])).getD 31 0 = y := by
      simp [List.getD_eq_getElem?_getD, List.getElem?_append, hr]
    rw [h31]
    simp [List.set_append, hr]
  rw [e]
  have ha := a.toNat_lt
  have hy := y.toNat_lt
  have hx0 : (UInt8.ofNat (a.toNat / 8 * 8)).toNat = a.toNat / 8 * 8 := by simp [UInt8.toNat_ofNat']; omega
  have hx1 : (UInt8.ofNat (y.toNat % 64 + 64)).toNat = y.toNat % 64 + 64 := by simp [UInt8.toNat_ofNat']; omega
  have hlt := leN_lt rs
  rw [hr] at hlt
  have e2 : leN (UInt8.ofNat (a.toNat / 8 * 8) :: (rs ++ [UInt8.ofNat (y.toNat % 64 + 64)])) = a.toNat / 8 * 8 + 256 * (leN rs + 256 ^ 30 * (y.toNat % 64 + 64)) := by
    show (UInt8.ofNat (a.toNat / 8 * 8)).toNat + 256 * leN (rs ++ [UInt8.ofNat (y.toNat % 64 + 64)]) = _
    rw [leN_snoc, hr, hx0, hx1]
  rw [e2]
  generalize leN rs = z at *
  generalize a.toNat = p at *
  generalize y.toNat = q at *
  rw [show (256 : Nat) ^ 30 = 1766847064778384329583297500742918515827483896875618958121606201292619776 by decide +kernel] at *
  rw [show (2 : Nat) ^ 255 = 57896044618658097711785492504343953926634992332820282019728792003956564819968 by decide +kernel]
  omega
/-- Two have one secret. -/
theorem uF_dhV (key pt : List UInt8) : uF (dhV key pt) = ladOut (uF pt) (leN (clampB key)) := by
  refine Fin.ext ?_
  show ofN (leB 32 (ladOut (uF pt) (leN (clampB key))).val) = _
  obtain ⟨v, hv⟩ : ∃ v : FF, v = ladOut (uF pt) (leN (clampB key)) := ⟨_, rfl⟩
  rw [← hv]
  have h1 : v.val < pp := v.isLt
  have h3 : v.val < 57896044618658097711785492504343953926634992332820282019728792003956564819968 := by rw [pp_def] at h1; omega
  have h2 : v.val < 256 ^ 32 := Nat.lt_trans h3 (by decide +kernel)
  unfold ofN
  rw [List.take_of_length_le (by rw [leB_length]; omega), leN_leB, Nat.mod_eq_of_lt h2, Nat.mod_eq_of_lt h3, Nat.mod_eq_of_lt h1]
theorem dh_shares (a b : List UInt8) : dhV a (dhV b (b32 9)) = dhV b (dhV a (b32 9)) := by
  unfold dhV
  rw [show leB 32 (ladOut (uF (b32 9)) (leN (clampB b))).val = dhV b (b32 9) from rfl, show leB 32 (ladOut (uF (b32 9)) (leN (clampB a))).val = dhV a (b32 9) from rfl]
  rw [uF_dhV, uF_dhV, uF_nine, share (clampB_even a).2 (clampB_even b).2 (clampB_even a).1 (clampB_even b).1]
end Go.Proofs.YtpkmidaflnbobaaGreatDoor
end
section
namespace Go.Proofs.YtpkmidaflnbobaaGreatDoor
set_option linter.unusedVariables false
set_option linter.unusedSimpArgs false
theorem prE0 : Pr 531581 := pr_small 531581 730 (by decide) (by decide) (by decide +kernel)
theorem prE1 : Pr 1224481 := pr_small 1224481 1107 (by decide) (by decide) (by decide +kernel)
theorem pr7 : Pr 7 := pr_small 7 3 (by decide) (by decide) (by decide +kernel)
theorem pr11 : Pr 11 := pr_small 11 4 (by decide) (by decide) (by decide +kernel)
theorem pr43 : Pr 43 := pr_small 43 7 (by decide) (by decide) (by decide +kernel)
theorem pr269 : Pr 269 := pr_small 269 17 (by decide) (by decide) (by decide +kernel)
theorem pr2851 : Pr 2851 := pr_small 2851 54 (by decide) (by decide) (by decide +kernel)
theorem prE2 : Pr 1257559732178653 := pock (a := 2) (b := 2) (by decide) prE1 prE0 (by decide)
  (wit_of _ _ _ 51 (by decide) (by decide +kernel) (by decide +kernel) (by decide +kernel) (by decide +kernel)) (wit_of _ _ _ 51 (by decide) (by decide +kernel) (by decide +kernel) (by decide +kernel) (by decide +kernel)) (by decide +kernel)
theorem prE3 : Pr 4434155615661930479 := pock (a := 2) (b := 2) (by decide) prE2 pr43 (by decide)
  (wit_of _ _ _ 62 (by decide) (by decide +kernel) (by decide +kernel) (by decide +kernel) (by decide +kernel)) (wit_of _ _ _ 62 (by decide) (by decide +kernel) (by decide +kernel) (by decide +kernel) (by decide +kernel)) (by decide +kernel)
theorem prE4 : Pr 172054593956031949258510691 := pock (a := 2) (b := 2) (by decide) prE3 pr2851 (by decide)
  (wit_of _ _ _ 88 (by decide) (by decide +kernel) (by decide +kernel) (by decide +kernel) (by decide +kernel)) (wit_of _ _ _ 88 (by decide) (by decide +kernel) (by decide +kernel) (by decide +kernel) (by decide +kernel)) (by decide +kernel)
theorem prE5 : Pr 19757330305831588566944191468367130476339 := pock (a := 2) (b := 2) (by decide) prE4 pr269 (by decide)
  (wit_of _ _ _ 134 (by decide) (by decide +kernel) (by decide +kernel) (by decide +kernel) (by decide +kernel)) (wit_of _ _ _ 134 (by decide) (by decide +kernel) (by decide +kernel) (by decide +kernel) (by decide +kernel)) (by decide +kernel)
theorem prE5b : Pr 276602624281642239937218680557139826668747 := pock (a := 2) (b := 2) (by decide) prE5 pr7 (by decide)
  (wit_of _ _ _ 138 (by decide) (by decide +kernel) (by decide +kernel) (by decide +kernel) (by decide +kernel)) (wit_of _ _ _ 138 (by decide) (by decide +kernel) (by decide +kernel) (by decide +kernel) (by decide +kernel)) (by decide +kernel)
theorem prE6 : Pr 7237005577332262213973186563042994240857116359379907606001950938285454250989 := pock (a := 2) (b := 2) (by decide) prE5b pr11 (by decide)
  (wit_of _ _ _ 253 (by decide) (by decide +kernel) (by decide +kernel) (by decide +kernel) (by decide +kernel)) (wit_of _ _ _ 253 (by decide) (by decide +kernel) (by decide +kernel) (by decide +kernel) (by decide +kernel)) (by decide +kernel)
theorem LL_pr : Pr LL := prE6
theorem clampB_eight (xs : List UInt8) : leN (clampB xs) % 8 = 0 ∧ 0 < leN (clampB xs) := by
  obtain ⟨ps, hps⟩ : ∃ ps, ps = pad32 xs := ⟨_, rfl⟩
  have hl : ps.length = 32 := by rw [hps]; exact pad32_length xs
  unfold clampB
  rw [← hps]
  rcases ps with _ | ⟨a, qs⟩
  · simp at hl
  have hq : qs.length = 31 := by simpa using hl
  obtain ⟨rs, y, rfl⟩ : ∃ rs y, qs = rs ++ [y] := ⟨qs.dropLast, qs.getLast (by intro h; rw [h] at hq; simp at hq), (List.dropLast_concat_getLast _).symm⟩
  have hr : rs.length = 30 := by simpa using hq
  have e : (((a :: (rs ++ [y])).set 0 (UInt8.ofNat (((a :: (rs ++ [y])).getD 0 0).toNat / 8 * 8))).set 31 (UInt8.ofNat (((a :: (rs ++ [y])).getD 31 0).toNat % 64 + 64))) =
      UInt8.ofNat (a.toNat / 8 * 8) :: (rs ++ [UInt8.ofNat (y.toNat % 64 + 64)]) := by
    have h31 : (a :: (rs ++ [y])).getD 31 0 = y := by
      simp [List.getD_eq_getElem?_getD, List.getElem?_append, hr]
    rw [h31]
    simp [List.set_append, hr]
  rw [e]
  have ha := a.toNat_lt
  have hy := y.toNat_lt
  have hx0 : (UInt8.ofNat (a.toNat / 8 * 8)).toNat = a.toNat / 8 * 8 := by simp [UInt8.toNat_ofNat']; omega
  have hx1 : (UInt8.ofNat (y.toNat % 64 + 64)).toNat = y.toNat % 64 + 64 := by simp [UInt8.toNat_ofNat']; omega
  have e2 : leN (UInt8.ofNat (a.toNat / 8 * 8) :: (rs ++ [UInt8.ofNat (y.toNat % 64 + 64)])) = a.toNat / 8 * 8 + 256 * (leN rs + 256 ^ 30 * (y.toNat % 64 + 64)) := by
    show (UInt8.ofNat (a.toNat / 8 * 8)).toNat + 256 * leN (rs ++ [UInt8.ofNat (y.toNat % 64 + 64)]) = _
    rw [leN_snoc, hr, hx0, hx1]
  rw [e2]
  generalize leN rs = z at *
  generalize a.toNat = p at *
  generalize y.toNat = q at *
  rw [show (256 : Nat) ^ 30 = 1766847064778384329583297500742918515827483896875618958121606201292619776 by decide +kernel] at *
  omega
theorem LL_not {k : Nat} (h8 : k % 8 = 0) (h0 : 0 < k) (hl : k < 2 ^ 255) : ¬ LL ∣ k := fun h => by
  have h8' : 8 * (k / 8) = k := by omega
  rw [← h8'] at h
  have hm : k / 8 < LL := by
    unfold LL
    rw [show (2 : Nat) ^ 255 = 57896044618658097711785492504343953926634992332820282019728792003956564819968 by decide +kernel] at hl
    omega
  rcases LL_pr.euclid h with h1 | h1
  · exact absurd (Nat.le_of_dvd (by decide) h1) (by unfold LL; decide)
  · exact absurd (Nat.le_of_dvd (by omega) h1) (by omega)
theorem times_nz {N : Nat} (h : ¬ LL ∣ N) : Pt.times N Gb ≠ Pt.zero := fun hz => by
  have hf := LL_pr.fermat' h
  obtain ⟨e, he⟩ : ∃ e, LL - 1 = e + 1 := ⟨LL - 2, by unfold LL; decide⟩
  rw [he, Nat.pow_succ] at hf
  have h1 : Pt.times (N ^ e * N) Gb = Pt.zero := by rw [Pt.times_times Gb_on, hz, times_zero_pt]
  rw [← times_mod, hf] at h1
  have h2 : Pt.times 1 Gb = Gb := by
    show (Pt.times 0 Gb).add Gb = Gb
    exact Pt.zero_add Gb_on
  rw [h2] at h1
  have h3 : Gb.x = 0 := by rw [h1]; rfl
  exact absurd h3 (by unfold Gb; decide +kernel)
/-- The secret of two pairs is never nothing. -/
theorem dh_nz (a b : List UInt8) : dhV a (dhV b (b32 9)) ≠ z32 := fun h => by
  have ha := clampB_even a
  have hb := clampB_even b
  have e1 : uF (dhV b (b32 9)) = uOf (Pt.times (leN (clampB b)) Gb) := by
    rw [uF_dhV, uF_nine, ← Gb_u, ladOut_pt Gb_on hb.2 hb.1]
  have e2 : uF (dhV a (dhV b (b32 9))) = uOf (Pt.times (leN (clampB a)) (Pt.times (leN (clampB b)) Gb)) := by
    rw [uF_dhV, e1, ladOut_pt (Pt.times_on Gb_on _) ha.2 ha.1]
  rw [h, uF_zero] at e2
  have e3 := twice_of (Pt.times_on (Pt.times_on Gb_on _) _) e2.symm
  rw [← Pt.times_times Gb_on, times_dbl Gb_on] at e3
  refine times_nz (fun hd => ?_) e3
  rcases LL_pr.euclid hd with h1 | h1
  · exact absurd (Nat.le_of_dvd (by decide) h1) (by unfold LL; decide)
  · rcases LL_pr.euclid h1 with h1 | h1
    · exact LL_not (clampB_eight a).1 (clampB_eight a).2 ha.2 h1
    · exact LL_not (clampB_eight b).1 (clampB_eight b).2 hb.2 h1
end Go.Proofs.YtpkmidaflnbobaaGreatDoor
end
section
namespace Go.Proofs.YtpkmidaflnbobaaGreatDoor
section
open Go Go.RowKit
set_option linter.unusedVariables false
set_option linter.unusedSimpArgs false
abbrev RTd : TypeId := 87
theorem infoRd : (Tryz.prog.info? RTd).map (·.size) = some 8 := by kernel_rfl
/-- A ratio, as the code holds it. -/
def rA (x z : FF) : Array Value := eF x ++ eF z
theorem rA_lo (x z : FF) : (rA x z).extract 0 (0 + (eF x).size) = eF x := rfl
theorem rA_hi (x z : FF) : (rA x z).extract 4 (4 + (eF z).size) = eF z := rfl
theorem eF_allD (x : FF) : (eF x).extract 0 (0 + (eF x).size) = eF x := rfl
theorem rA_all (x z : FF) : (rA x z).extract 0 (0 + (rA x z).size) = rA x z := rfl
theorem infoRA (x z : FF) : (Tryz.prog.info? RTd).map (·.size) = some (rA x z).size := infoRd
theorem oneRA (x z : FF) : (rA x z).all (·.oneCell') = true := by
  unfold rA
  rw [Array.all_append, oneEA, oneEA]; rfl
abbrev ET7 : TypeId := 55
theorem infoE7 : (Tryz.prog.info? ET7).map (·.size) = some 4 := by kernel_rfl
theorem infoEF (x : FF) : (Tryz.prog.info? ET7).map (·.size) = some (eF x).size := infoE7
abbrev z8 : Array Value := #[.int .u64 0, .int .u64 0, .int .u64 0, .int .u64 0, .int .u64 0, .int .u64 0, .int .u64 0, .int .u64 0]
theorem oneEF (x : FF) : (eF x).all (·.oneCell') = true := oneEA _
theorem sizeZE (x : FF) : z4.size = (eF x).size := rfl
theorem sizeZR (x z : FF) : z8.size = (rA x z).size := rfl
theorem zeroE7 : (Tryz.prog.info? ET7).map (fun i => (i.zero, i.size)) = some (some (.agg z4), 4) := by kernel_rfl
theorem zeroR7 : (Tryz.prog.info? RTd).map (fun i => (i.zero, i.size)) = some (some (.agg z8), 8) := by kernel_rfl
abbrev RT2 : TypeId := 117
def rB (x z x' z' : FF) : Array Value := rA x z ++ rA x' z'
theorem ext_lo (A B : Array Value) : (A ++ B).extract 0 (0 + A.size) = A := by simp
theorem ext_hi (A B : Array Value) (n : Nat) (h : A.size = n) : (A ++ B).extract n (n + B.size) = B := by subst h; simp
theorem rB_lo (x z x' z' : FF) : (rB x z x' z').extract 0 (0 + (rA x z).size) = rA x z := ext_lo _ _
theorem rB_hi (x z x' z' : FF) : (rB x z x' z').extract 8 (8 + (rA x' z').size) = rA x' z' := ext_hi _ _ 8 rfl
theorem infoRB (x z x' z' : FF) : (Tryz.prog.info? RT2).map (·.size) = some (rB x z x' z').size := by
  have h : (Tryz.prog.info? RT2).map (·.size) = some 16 := by kernel_rfl
  rw [h]; rfl
theorem oneRB (x z x' z' : FF) : (rB x z x' z').all (·.oneCell') = true := by
  unfold rB
  rw [Array.all_append, oneRA, oneRA]; rfl
abbrev z16 : Array Value := (.int .u64 0 :: .int .u64 0 :: .int .u64 0 :: .int .u64 0 :: .int .u64 0 :: .int .u64 0 :: .int .u64 0 :: .int .u64 0 :: .int .u64 0 :: .int .u64 0 :: .int .u64 0 :: .int .u64 0 :: .int .u64 0 :: .int .u64 0 :: .int .u64 0 :: .int .u64 0 :: []).toArray
theorem sizeZB (x z x' z' : FF) : z16.size = (rB x z x' z').size := rfl
theorem build_r (x z : FF) : Tryz.prog.built RTd [(0, .agg (eF x)), (1, .agg (eF z))] = some (rA x z) := by kernel_rfl
theorem build_r1 (x : FF) : Tryz.prog.built RTd [(0, .agg (eF x))] = some (rA x 0) := by kernel_rfl
theorem build_b (x z x' z' : FF) : Tryz.prog.built RT2 [(0, .agg (rA x z)), (1, .agg (rA x' z'))] = some (rB x z x' z') := by kernel_rfl
end
section
open Go Go.RowKit
set_option linter.unusedVariables false
set_option linter.unusedSimpArgs false
theorem St_start (w : World) (X Y U : Array Value) : Cl (((((w.alloc (.cells X RTd)).alloc (.cells Y RTd)).alloc (.cells U ET7)).alloc (.cells z8 RTd)).alloc (.cells z8 RTd))
    [(w.heap.size, X, RTd), (w.heap.size + 1, Y, RTd), (w.heap.size + 1 + 1, U, ET7), (w.heap.size + 1 + 1 + 1, z8, RTd), (w.heap.size + 1 + 1 + 1 + 1, z8, RTd)] :=
  ⟨blkA (blkA (blkA (blkA (blkN rfl X RTd) _) _) _) _, blkA (blkA (blkA (blkN (by simp) Y RTd) _) _) _, blkA (blkA (blkN (by simp) U ET7) _) _, blkA (blkN (by simp) z8 RTd) _, blkN (by simp) z8 RTd, trivial⟩
set_option maxRecDepth 100000 in
set_option maxHeartbeats 4000000 in
theorem Step_e (x2 z2 x3 z3 u : FF) (w : World) : Calls Tryz.prog 80 #[.agg (rA x2 z2), .agg (rA x3 z3), .agg (eF u)] w fun e w' => e = .returned (.tuple #[.agg (rA (lX2 x2 z2) (lZ2 x2 z2)), .agg (rA (lS x2 z2 x3 z3 * lS x2 z2 x3 z3) (u * (lD x2 z2 x3 z3 * lD x2 z2 x3 z3)))]) ∧ Below w.heap.size w w' := by
  obtain ⟨m, hm⟩ : ∃ m : FF, m = 121665 := ⟨_, rfl⟩
  have Km := numE 121665 (r := m) (by omega) (by rw [hm]; decide +kernel)
  obtain ⟨a, ha⟩ : ∃ v : FF, v = x2 + z2 := ⟨_, rfl⟩
  have Ka := addE ha
  obtain ⟨b, hb⟩ : ∃ v : FF, v = x2 - z2 := ⟨_, rfl⟩
  have Kb := subE hb
  obtain ⟨c, hc⟩ : ∃ v : FF, v = x3 + z3 := ⟨_, rfl⟩
  have Kc := addE hc
  obtain ⟨d, hd⟩ : ∃ v : FF, v = x3 - z3 := ⟨_, rfl⟩
  have Kd := subE hd
  obtain ⟨da, hda⟩ : ∃ v : FF, v = d * a := ⟨_, rfl⟩
  have Kda := mulE hda
  obtain ⟨cb, hcb⟩ : ∃ v : FF, v = c * b := ⟨_, rfl⟩
  have Kcb := mulE hcb
  obtain ⟨aa, haa⟩ : ∃ v : FF, v = a * a := ⟨_, rfl⟩
  have Kaa := sqE haa
  obtain ⟨bb, hbb⟩ : ∃ v : FF, v = b * b := ⟨_, rfl⟩
  have Kbb := sqE hbb
  obtain ⟨e, he⟩ : ∃ v : FF, v = aa - bb := ⟨_, rfl⟩
  have Ke := subE he
  obtain ⟨tx, htx⟩ : ∃ v : FF, v = aa * bb := ⟨_, rfl⟩
  have Ktx := mulE htx
  obtain ⟨fe, hfe⟩ : ∃ v : FF, v = m * e := ⟨_, rfl⟩
  have Kfe := mulE hfe
  obtain ⟨g, hg⟩ : ∃ v : FF, v = aa + fe := ⟨_, rfl⟩
  have Kg := addE hg
  obtain ⟨tz, htz⟩ : ∃ v : FF, v = e * g := ⟨_, rfl⟩
  have Ktz := mulE htz
  obtain ⟨s, hs⟩ : ∃ v : FF, v = da + cb := ⟨_, rfl⟩
  have Ks := addE hs
  obtain ⟨s2, hs2⟩ : ∃ v : FF, v = s * s := ⟨_, rfl⟩
  have Ks2 := sqE hs2
  obtain ⟨t, ht⟩ : ∃ v : FF, v = da - cb := ⟨_, rfl⟩
  have Kt := subE ht
  obtain ⟨t2, ht2⟩ : ∃ v : FF, v = t * t := ⟨_, rfl⟩
  have Kt2 := sqE ht2
  obtain ⟨ut, hut⟩ : ∃ v : FF, v = u * t2 := ⟨_, rfl⟩
  have Kut := mulE hut
  have hR1 : rA (lX2 x2 z2) (lZ2 x2 z2) = rA tx tz := by
    rw [htx, htz, hg, hfe, he, haa, hbb, ha, hb, hm]; rfl
  have hR2 : rA (lS x2 z2 x3 z3 * lS x2 z2 x3 z3) (u * (lD x2 z2 x3 z3 * lD x2 z2 x3 z3)) = rA s2 ut := by
    rw [hs2, hut, ht2, ht, hs, hda, hcb, hc, hd, ha, hb]; rfl
  rw [hR1, hR2]
  clear hR1 hR2 hm ha hb hc hd hda hcb haa hbb he htx hfe hg htz hs hs2 ht ht2 hut
  have F0 := hid (St_start w (rA x2 z2) (rA x3 z3) (eF u))
  have HB0 : Hid (Below w.heap.size w (((((w.alloc (.cells (rA x2 z2) RTd)).alloc (.cells (rA x3 z3) RTd)).alloc (.cells (eF u) ET7)).alloc (.cells z8 RTd)).alloc (.cells z8 RTd))) := hid ((((((Below.refl _ _).alloc (Nat.le_refl _) _).alloc (by simp) _).alloc (by simp; omega) _).alloc (by simp; omega) _).alloc (by simp; omega) _)
  go_enter Tryz.func80, Tryz.ntmps80
  go_wp2_with fail
  generalize hw1 : (((((w.alloc (.cells (rA x2 z2) RTd)).alloc (.cells (rA x3 z3) RTd)).alloc (.cells (eF u) ET7)).alloc (.cells z8 RTd)).alloc (.cells z8 RTd)) = w1 at F0 HB0 ⊢
  clear hw1
  generalize hb7 : w.heap.size + 1 + 1 + 1 + 1 = b7 at F0 ⊢
  generalize hb6 : w.heap.size + 1 + 1 + 1 = b6 at F0 ⊢
  generalize hb5 : w.heap.size + 1 + 1 = b5 at F0 ⊢
  generalize hb4 : w.heap.size + 1 = b4 at F0 ⊢
  generalize hb3 : w.heap.size = b3 at F0 HB0 ⊢
  have HB67 : Hid (b3 ≤ b6 ∧ b3 ≤ b7 ∧ b6 < w1.heap.size ∧ b7 < w1.heap.size ∧ b7 ≠ b6) := hid ⟨by omega, by omega, block_lt F0.out.2.2.2.1, block_lt F0.out.2.2.2.2.1, by omega⟩
  clear hb4 hb5 hb6 hb7
  have hw1 : b3 ≤ w1.heap.size := by have := HB0.out.size; omega
  have HBw := hid hb3
  clear hb3
  have HM1 : Hid (w1.heap.size ≤ w1.heap.size) := hid (Nat.le_refl _)
  refine wp_region_grA 12 (by kernel_rfl) (by decide) ?_
  refine wpGrA_take (i := 0) (.pointer (some ⟨b3, 0, none⟩)) rfl (by kernel_rfl) (by kernel_rfl) (fun _ _ _ h => h) (yieldsG_val _ rfl (fun w' _ => by go_simp)) ?_
  (try simp only [Act.put, List.getElem_toArray, List.getElem_cons_succ, List.getElem_cons_zero, List.setIfInBounds_toArray, List.set_cons_zero, List.set_cons_succ])
  refine wpGrA_take (i := 1) (.agg (eF x2)) rfl (by kernel_rfl) (by kernel_rfl) (fun _ _ _ h => h) (yieldsG_part rfl ET7 (.tmp 19) rfl b3 0 rfl RTd (rA x2 z2) (eF x2) (0, 0) _ F0.out.1 (rA_lo _ _) Tryz.underlying55 rfl (infoEF _)) ?_
  (try simp only [Act.put, List.getElem_toArray, List.getElem_cons_succ, List.getElem_cons_zero, List.setIfInBounds_toArray, List.set_cons_zero, List.set_cons_succ])
  refine wpGrA_take (i := 2) (.pointer (some ⟨b3, 4, none⟩)) rfl (by kernel_rfl) (by kernel_rfl) (fun _ _ _ h => h) (yieldsG_val _ rfl (fun w' _ => by go_simp)) ?_
  (try simp only [Act.put, List.getElem_toArray, List.getElem_cons_succ, List.getElem_cons_zero, List.setIfInBounds_toArray, List.set_cons_zero, List.set_cons_succ])
  refine wpGrA_take (i := 3) (.agg (eF z2)) rfl (by kernel_rfl) (by kernel_rfl) (fun _ _ _ h => h) (yieldsG_part rfl ET7 (.tmp 21) rfl b3 4 rfl RTd (rA x2 z2) (eF z2) (0, 0) _ F0.out.1 (rA_hi _ _) Tryz.underlying55 rfl (infoEF _)) ?_
  (try simp only [Act.put, List.getElem_toArray, List.getElem_cons_succ, List.getElem_cons_zero, List.setIfInBounds_toArray, List.set_cons_zero, List.set_cons_succ])
  refine wpGrA_take (i := 4) (.agg (eF a)) rfl (by kernel_rfl) (by kernel_rfl) (fun _ _ _ h => h) (yieldsG_call rfl (fun w' => by go_simp) (fun w' _ => Ka.out w')) ?_
  (try simp only [Act.put, List.getElem_toArray, List.getElem_cons_succ, List.getElem_cons_zero, List.setIfInBounds_toArray, List.set_cons_zero, List.set_cons_succ])
  refine wpGrA_take (i := 5) (.pointer (some ⟨b3, 0, none⟩)) rfl (by kernel_rfl) (by kernel_rfl) (fun _ _ _ h => h) (yieldsG_val _ rfl (fun w' _ => by go_simp)) ?_
  (try simp only [Act.put, List.getElem_toArray, List.getElem_cons_succ, List.getElem_cons_zero, List.setIfInBounds_toArray, List.set_cons_zero, List.set_cons_succ])
  refine wpGrA_take (i := 6) (.agg (eF x2)) rfl (by kernel_rfl) (by kernel_rfl) (fun _ _ _ h => h) (yieldsG_part rfl ET7 (.tmp 24) rfl b3 0 rfl RTd (rA x2 z2) (eF x2) (0, 0) _ F0.out.1 (rA_lo _ _) Tryz.underlying55 rfl (infoEF _)) ?_
  (try simp only [Act.put, List.getElem_toArray, List.getElem_cons_succ, List.getElem_cons_zero, List.setIfInBounds_toArray, List.set_cons_zero, List.set_cons_succ])
  refine wpGrA_take (i := 7) (.pointer (some ⟨b3, 4, none⟩)) rfl (by kernel_rfl) (by kernel_rfl) (fun _ _ _ h => h) (yieldsG_val _ rfl (fun w' _ => by go_simp)) ?_
  (try simp only [Act.put, List.getElem_toArray, List.getElem_cons_succ, List.getElem_cons_zero, List.setIfInBounds_toArray, List.set_cons_zero, List.set_cons_succ])
  refine wpGrA_take (i := 8) (.agg (eF z2)) rfl (by kernel_rfl) (by kernel_rfl) (fun _ _ _ h => h) (yieldsG_part rfl ET7 (.tmp 26) rfl b3 4 rfl RTd (rA x2 z2) (eF z2) (0, 0) _ F0.out.1 (rA_hi _ _) Tryz.underlying55 rfl (infoEF _)) ?_
  (try simp only [Act.put, List.getElem_toArray, List.getElem_cons_succ, List.getElem_cons_zero, List.setIfInBounds_toArray, List.set_cons_zero, List.set_cons_succ])
  refine wpGrA_take (i := 9) (.agg (eF b)) rfl (by kernel_rfl) (by kernel_rfl) (fun _ _ _ h => h) (yieldsG_call rfl (fun w' => by go_simp) (fun w' _ => Kb.out w')) ?_
  (try simp only [Act.put, List.getElem_toArray, List.getElem_cons_succ, List.getElem_cons_zero, List.setIfInBounds_toArray, List.set_cons_zero, List.set_cons_succ])
  refine wpGrA_alloc2 (i := 10) (j := 11) (si := 8) (sj := 9) rfl rfl rfl rfl rfl rfl zeroE7 zeroE7 rfl rfl (by kernel_rfl) ?_
  intro b8 b9 wx hp hq hne h1 h2 hb
  (try simp only [Act.put, List.getElem_toArray, List.getElem_cons_succ, List.getElem_cons_zero, List.setIfInBounds_toArray, List.set_cons_zero, List.set_cons_succ])
  have h1' := h1
  have HM2 : Hid (w1.heap.size ≤ ((wx.setRow b8 (eF a)).setRow b9 (eF b)).heap.size) := hid (by rw [size_setRow, size_setRow]; exact Nat.le_trans HM1.out hb.size)
  have h2' : (wx.setRow b8 (eF a)).heap[b9]? = some (.cells z4 ET7 (0, 0)) := (setRow_other _ _ _ _ (Ne.symm hne)).trans h2
  have F2 := hid ((F0.out).new2 hb hp hq hne (X := eF a) (Y := eF b) h1 h2)
  have HB2 : Hid (Below b3 w ((wx.setRow b8 (eF a)).setRow b9 (eF b))) := hid (belowRow (belowRow (HB0.out.trans (hb.mono hw1)) (Nat.le_trans hw1 hp) _) (Nat.le_trans hw1 hq) _)
  refine wpList_store_row rfl ET7 (.tmp 8) (.tmp 23) rfl b8 (eF a) rfl rfl ET7 z4 h1' (infoEF _) (sizeZE _) (oneEF _) ?_
  refine wpList_store_row rfl ET7 (.tmp 9) (.tmp 28) rfl b9 (eF b) rfl rfl ET7 z4 h2' (infoEF _) (sizeZE _) (oneEF _) ?_
  (try simp only [Act.put, List.getElem_toArray, List.getElem_cons_succ, List.getElem_cons_zero, List.setIfInBounds_toArray, List.set_cons_zero, List.set_cons_succ])
  generalize hw : ((wx.setRow b8 (eF a)).setRow b9 (eF b)) = w2 at F2 HB2 HM2 ⊢
  have hw2 : b3 ≤ w2.heap.size := by have := HB2.out.size; have := HBw.out; omega
  clear hw
  try clear h2 h2'
  try clear h1 h1'
  try clear hq hne
  clear hp hb
  clear wx
  go_wp2_with fail
  refine wp_region_grA 12 (by kernel_rfl) (by decide) ?_
  refine wpGrA_take (i := 0) (.pointer (some ⟨b4, 0, none⟩)) rfl (by kernel_rfl) (by kernel_rfl) (fun _ _ _ h => h) (yieldsG_val _ rfl (fun w' _ => by go_simp)) ?_
  (try simp only [Act.put, List.getElem_toArray, List.getElem_cons_succ, List.getElem_cons_zero, List.setIfInBounds_toArray, List.set_cons_zero, List.set_cons_succ])
  refine wpGrA_take (i := 1) (.agg (eF x3)) rfl (by kernel_rfl) (by kernel_rfl) (fun _ _ _ h => h) (yieldsG_part rfl ET7 (.tmp 29) rfl b4 0 rfl RTd (rA x3 z3) (eF x3) (0, 0) _ F2.out.2.2.2.1 (rA_lo _ _) Tryz.underlying55 rfl (infoEF _)) ?_
  (try simp only [Act.put, List.getElem_toArray, List.getElem_cons_succ, List.getElem_cons_zero, List.setIfInBounds_toArray, List.set_cons_zero, List.set_cons_succ])
  refine wpGrA_take (i := 2) (.pointer (some ⟨b4, 4, none⟩)) rfl (by kernel_rfl) (by kernel_rfl) (fun _ _ _ h => h) (yieldsG_val _ rfl (fun w' _ => by go_simp)) ?_
  (try simp only [Act.put, List.getElem_toArray, List.getElem_cons_succ, List.getElem_cons_zero, List.setIfInBounds_toArray, List.set_cons_zero, List.set_cons_succ])
  refine wpGrA_take (i := 3) (.agg (eF z3)) rfl (by kernel_rfl) (by kernel_rfl) (fun _ _ _ h => h) (yieldsG_part rfl ET7 (.tmp 31) rfl b4 4 rfl RTd (rA x3 z3) (eF z3) (0, 0) _ F2.out.2.2.2.1 (rA_hi _ _) Tryz.underlying55 rfl (infoEF _)) ?_
  (try simp only [Act.put, List.getElem_toArray, List.getElem_cons_succ, List.getElem_cons_zero, List.setIfInBounds_toArray, List.set_cons_zero, List.set_cons_succ])
  refine wpGrA_take (i := 4) (.agg (eF c)) rfl (by kernel_rfl) (by kernel_rfl) (fun _ _ _ h => h) (yieldsG_call rfl (fun w' => by go_simp) (fun w' _ => Kc.out w')) ?_
  (try simp only [Act.put, List.getElem_toArray, List.getElem_cons_succ, List.getElem_cons_zero, List.setIfInBounds_toArray, List.set_cons_zero, List.set_cons_succ])
  refine wpGrA_take (i := 5) (.pointer (some ⟨b4, 0, none⟩)) rfl (by kernel_rfl) (by kernel_rfl) (fun _ _ _ h => h) (yieldsG_val _ rfl (fun w' _ => by go_simp)) ?_
  (try simp only [Act.put, List.getElem_toArray, List.getElem_cons_succ, List.getElem_cons_zero, List.setIfInBounds_toArray, List.set_cons_zero, List.set_cons_succ])
  refine wpGrA_take (i := 6) (.agg (eF x3)) rfl (by kernel_rfl) (by kernel_rfl) (fun _ _ _ h => h) (yieldsG_part rfl ET7 (.tmp 34) rfl b4 0 rfl RTd (rA x3 z3) (eF x3) (0, 0) _ F2.out.2.2.2.1 (rA_lo _ _) Tryz.underlying55 rfl (infoEF _)) ?_
  (try simp only [Act.put, List.getElem_toArray, List.getElem_cons_succ, List.getElem_cons_zero, List.setIfInBounds_toArray, List.set_cons_zero, List.set_cons_succ])
  refine wpGrA_take (i := 7) (.pointer (some ⟨b4, 4, none⟩)) rfl (by kernel_rfl) (by kernel_rfl) (fun _ _ _ h => h) (yieldsG_val _ rfl (fun w' _ => by go_simp)) ?_
  (try simp only [Act.put, List.getElem_toArray, List.getElem_cons_succ, List.getElem_cons_zero, List.setIfInBounds_toArray, List.set_cons_zero, List.set_cons_succ])
  refine wpGrA_take (i := 8) (.agg (eF z3)) rfl (by kernel_rfl) (by kernel_rfl) (fun _ _ _ h => h) (yieldsG_part rfl ET7 (.tmp 36) rfl b4 4 rfl RTd (rA x3 z3) (eF z3) (0, 0) _ F2.out.2.2.2.1 (rA_hi _ _) Tryz.underlying55 rfl (infoEF _)) ?_
  (try simp only [Act.put, List.getElem_toArray, List.getElem_cons_succ, List.getElem_cons_zero, List.setIfInBounds_toArray, List.set_cons_zero, List.set_cons_succ])
  refine wpGrA_take (i := 9) (.agg (eF d)) rfl (by kernel_rfl) (by kernel_rfl) (fun _ _ _ h => h) (yieldsG_call rfl (fun w' => by go_simp) (fun w' _ => Kd.out w')) ?_
  (try simp only [Act.put, List.getElem_toArray, List.getElem_cons_succ, List.getElem_cons_zero, List.setIfInBounds_toArray, List.set_cons_zero, List.set_cons_succ])
  refine wpGrA_alloc2 (i := 10) (j := 11) (si := 10) (sj := 11) rfl rfl rfl rfl rfl rfl zeroE7 zeroE7 rfl rfl (by kernel_rfl) ?_
  intro b10 b11 wx hp hq hne h1 h2 hb
  (try simp only [Act.put, List.getElem_toArray, List.getElem_cons_succ, List.getElem_cons_zero, List.setIfInBounds_toArray, List.set_cons_zero, List.set_cons_succ])
  have h1' := h1
  have HM3 : Hid (w1.heap.size ≤ ((wx.setRow b10 (eF c)).setRow b11 (eF d)).heap.size) := hid (by rw [size_setRow, size_setRow]; exact Nat.le_trans HM2.out hb.size)
  have h2' : (wx.setRow b10 (eF c)).heap[b11]? = some (.cells z4 ET7 (0, 0)) := (setRow_other _ _ _ _ (Ne.symm hne)).trans h2
  have F3 := hid ((F2.out).new2 hb hp hq hne (X := eF c) (Y := eF d) h1 h2)
  have HB3 : Hid (Below b3 w ((wx.setRow b10 (eF c)).setRow b11 (eF d))) := hid (belowRow (belowRow (HB2.out.trans (hb.mono hw2)) (Nat.le_trans hw2 hp) _) (Nat.le_trans hw2 hq) _)
  refine wpList_store_row rfl ET7 (.tmp 10) (.tmp 33) rfl b10 (eF c) rfl rfl ET7 z4 h1' (infoEF _) (sizeZE _) (oneEF _) ?_
  refine wpList_store_row rfl ET7 (.tmp 11) (.tmp 38) rfl b11 (eF d) rfl rfl ET7 z4 h2' (infoEF _) (sizeZE _) (oneEF _) ?_
  (try simp only [Act.put, List.getElem_toArray, List.getElem_cons_succ, List.getElem_cons_zero, List.setIfInBounds_toArray, List.set_cons_zero, List.set_cons_succ])
  generalize hw : ((wx.setRow b10 (eF c)).setRow b11 (eF d)) = w3 at F3 HB3 HM3 ⊢
  have hw3 : b3 ≤ w3.heap.size := by have := HB3.out.size; have := HBw.out; omega
  clear hw
  try clear h2 h2'
  try clear h1 h1'
  try clear hq hne
  clear hp hb
  clear wx
  go_wp2_with fail
  refine wp_region_grA 8 (by kernel_rfl) (by decide) ?_
  refine wpGrA_take (i := 0) (.agg (eF d)) rfl (by kernel_rfl) (by kernel_rfl) (fun _ _ _ h => h) (yieldsG_part rfl ET7 (.tmp 11) rfl b11 0 rfl ET7 (eF d) (eF d) (0, 0) _ F3.out.2.1 (eF_allD _) Tryz.underlying55 rfl (infoEF _)) ?_
  (try simp only [Act.put, List.getElem_toArray, List.getElem_cons_succ, List.getElem_cons_zero, List.setIfInBounds_toArray, List.set_cons_zero, List.set_cons_succ])
  refine wpGrA_take (i := 1) (.agg (eF a)) rfl (by kernel_rfl) (by kernel_rfl) (fun _ _ _ h => h) (yieldsG_part rfl ET7 (.tmp 8) rfl b8 0 rfl ET7 (eF a) (eF a) (0, 0) _ F3.out.2.2.1 (eF_allD _) Tryz.underlying55 rfl (infoEF _)) ?_
  (try simp only [Act.put, List.getElem_toArray, List.getElem_cons_succ, List.getElem_cons_zero, List.setIfInBounds_toArray, List.set_cons_zero, List.set_cons_succ])
  refine wpGrA_take (i := 2) (.agg (eF da)) rfl (by kernel_rfl) (by kernel_rfl) (fun _ _ _ h => h) (yieldsG_call rfl (fun w' => by go_simp) (fun w' _ => Kda.out w')) ?_
  (try simp only [Act.put, List.getElem_toArray, List.getElem_cons_succ, List.getElem_cons_zero, List.setIfInBounds_toArray, List.set_cons_zero, List.set_cons_succ])
  refine wpGrA_take (i := 3) (.agg (eF c)) rfl (by kernel_rfl) (by kernel_rfl) (fun _ _ _ h => h) (yieldsG_part rfl ET7 (.tmp 10) rfl b10 0 rfl ET7 (eF c) (eF c) (0, 0) _ F3.out.1 (eF_allD _) Tryz.underlying55 rfl (infoEF _)) ?_
  (try simp only [Act.put, List.getElem_toArray, List.getElem_cons_succ, List.getElem_cons_zero, List.setIfInBounds_toArray, List.set_cons_zero, List.set_cons_succ])
  refine wpGrA_take (i := 4) (.agg (eF b)) rfl (by kernel_rfl) (by kernel_rfl) (fun _ _ _ h => h) (yieldsG_part rfl ET7 (.tmp 9) rfl b9 0 rfl ET7 (eF b) (eF b) (0, 0) _ F3.out.2.2.2.1 (eF_allD _) Tryz.underlying55 rfl (infoEF _)) ?_
  (try simp only [Act.put, List.getElem_toArray, List.getElem_cons_succ, List.getElem_cons_zero, List.setIfInBounds_toArray, List.set_cons_zero, List.set_cons_succ])
  refine wpGrA_take (i := 5) (.agg (eF cb)) rfl (by kernel_rfl) (by kernel_rfl) (fun _ _ _ h => h) (yieldsG_call rfl (fun w' => by go_simp) (fun w' _ => Kcb.out w')) ?_
  (try simp only [Act.put, List.getElem_toArray, List.getElem_cons_succ, List.getElem_cons_zero, List.setIfInBounds_toArray, List.set_cons_zero, List.set_cons_succ])
  refine wpGrA_alloc2 (i := 6) (j := 7) (si := 12) (sj := 13) rfl rfl rfl rfl rfl rfl zeroE7 zeroE7 rfl rfl (by kernel_rfl) ?_
  intro b12 b13 wx hp hq hne h1 h2 hb
  (try simp only [Act.put, List.getElem_toArray, List.getElem_cons_succ, List.getElem_cons_zero, List.setIfInBounds_toArray, List.set_cons_zero, List.set_cons_succ])
  have h1' := h1
  have HM4 : Hid (w1.heap.size ≤ ((wx.setRow b12 (eF da)).setRow b13 (eF cb)).heap.size) := hid (by rw [size_setRow, size_setRow]; exact Nat.le_trans HM3.out hb.size)
  have h2' : (wx.setRow b12 (eF da)).heap[b13]? = some (.cells z4 ET7 (0, 0)) := (setRow_other _ _ _ _ (Ne.symm hne)).trans h2
  have F4 := hid ((F3.out).new2 hb hp hq hne (X := eF da) (Y := eF cb) h1 h2)
  have HB4 : Hid (Below b3 w ((wx.setRow b12 (eF da)).setRow b13 (eF cb))) := hid (belowRow (belowRow (HB3.out.trans (hb.mono hw3)) (Nat.le_trans hw3 hp) _) (Nat.le_trans hw3 hq) _)
  refine wpList_store_row rfl ET7 (.tmp 12) (.tmp 41) rfl b12 (eF da) rfl rfl ET7 z4 h1' (infoEF _) (sizeZE _) (oneEF _) ?_
  refine wpList_store_row rfl ET7 (.tmp 13) (.tmp 44) rfl b13 (eF cb) rfl rfl ET7 z4 h2' (infoEF _) (sizeZE _) (oneEF _) ?_
  (try simp only [Act.put, List.getElem_toArray, List.getElem_cons_succ, List.getElem_cons_zero, List.setIfInBounds_toArray, List.set_cons_zero, List.set_cons_succ])
  generalize hw : ((wx.setRow b12 (eF da)).setRow b13 (eF cb)) = w4 at F4 HB4 HM4 ⊢
  have hw4 : b3 ≤ w4.heap.size := by have := HB4.out.size; have := HBw.out; omega
  clear hw
  try clear h2 h2'
  try clear h1 h1'
  try clear hq hne
  clear hp hb
  clear wx
  go_wp2_with fail
  refine wp_region_grA 6 (by kernel_rfl) (by decide) ?_
  refine wpGrA_take (i := 0) (.agg (eF a)) rfl (by kernel_rfl) (by kernel_rfl) (fun _ _ _ h => h) (yieldsG_part rfl ET7 (.tmp 8) rfl b8 0 rfl ET7 (eF a) (eF a) (0, 0) _ F4.out.2.2.2.2.1 (eF_allD _) Tryz.underlying55 rfl (infoEF _)) ?_
  (try simp only [Act.put, List.getElem_toArray, List.getElem_cons_succ, List.getElem_cons_zero, List.setIfInBounds_toArray, List.set_cons_zero, List.set_cons_succ])
  refine wpGrA_take (i := 1) (.agg (eF aa)) rfl (by kernel_rfl) (by kernel_rfl) (fun _ _ _ h => h) (yieldsG_call rfl (fun w' => by go_simp) (fun w' _ => Kaa.out w')) ?_
  (try simp only [Act.put, List.getElem_toArray, List.getElem_cons_succ, List.getElem_cons_zero, List.setIfInBounds_toArray, List.set_cons_zero, List.set_cons_succ])
  refine wpGrA_take (i := 2) (.agg (eF b)) rfl (by kernel_rfl) (by kernel_rfl) (fun _ _ _ h => h) (yieldsG_part rfl ET7 (.tmp 9) rfl b9 0 rfl ET7 (eF b) (eF b) (0, 0) _ F4.out.2.2.2.2.2.1 (eF_allD _) Tryz.underlying55 rfl (infoEF _)) ?_
  (try simp only [Act.put, List.getElem_toArray, List.getElem_cons_succ, List.getElem_cons_zero, List.setIfInBounds_toArray, List.set_cons_zero, List.set_cons_succ])
  refine wpGrA_take (i := 3) (.agg (eF bb)) rfl (by kernel_rfl) (by kernel_rfl) (fun _ _ _ h => h) (yieldsG_call rfl (fun w' => by go_simp) (fun w' _ => Kbb.out w')) ?_
  (try simp only [Act.put, List.getElem_toArray, List.getElem_cons_succ, List.getElem_cons_zero, List.setIfInBounds_toArray, List.set_cons_zero, List.set_cons_succ])
  refine wpGrA_alloc2 (i := 4) (j := 5) (si := 14) (sj := 15) rfl rfl rfl rfl rfl rfl zeroE7 zeroE7 rfl rfl (by kernel_rfl) ?_
  intro b14 b15 wx hp hq hne h1 h2 hb
  (try simp only [Act.put, List.getElem_toArray, List.getElem_cons_succ, List.getElem_cons_zero, List.setIfInBounds_toArray, List.set_cons_zero, List.set_cons_succ])
  have h1' := h1
  have HM5 : Hid (w1.heap.size ≤ ((wx.setRow b14 (eF aa)).setRow b15 (eF bb)).heap.size) := hid (by rw [size_setRow, size_setRow]; exact Nat.le_trans HM4.out hb.size)
  have h2' : (wx.setRow b14 (eF aa)).heap[b15]? = some (.cells z4 ET7 (0, 0)) := (setRow_other _ _ _ _ (Ne.symm hne)).trans h2
  have F5 := hid ((F4.out).new2 hb hp hq hne (X := eF aa) (Y := eF bb) h1 h2)
  have HB5 : Hid (Below b3 w ((wx.setRow b14 (eF aa)).setRow b15 (eF bb))) := hid (belowRow (belowRow (HB4.out.trans (hb.mono hw4)) (Nat.le_trans hw4 hp) _) (Nat.le_trans hw4 hq) _)
  refine wpList_store_row rfl ET7 (.tmp 14) (.tmp 46) rfl b14 (eF aa) rfl rfl ET7 z4 h1' (infoEF _) (sizeZE _) (oneEF _) ?_
  refine wpList_store_row rfl ET7 (.tmp 15) (.tmp 48) rfl b15 (eF bb) rfl rfl ET7 z4 h2' (infoEF _) (sizeZE _) (oneEF _) ?_
  (try simp only [Act.put, List.getElem_toArray, List.getElem_cons_succ, List.getElem_cons_zero, List.setIfInBounds_toArray, List.set_cons_zero, List.set_cons_succ])
  generalize hw : ((wx.setRow b14 (eF aa)).setRow b15 (eF bb)) = w5 at F5 HB5 HM5 ⊢
  have hw5 : b3 ≤ w5.heap.size := by have := HB5.out.size; have := HBw.out; omega
  clear hw
  try clear h2 h2'
  try clear h1 h1'
  try clear hq hne
  clear hp hb
  clear wx
  have h14 : w5.heap[b14]? = some (.cells (eF aa) ET7 (0, 0)) := F5.out.1
  have h15 : w5.heap[b15]? = some (.cells (eF bb) ET7 (0, 0)) := F5.out.2.1
  go_wp2_with (first | (with_reducible refine wpList_load_row rfl ET7 (.tmp 14) rfl b14 rfl ET7 (eF aa) (0, 0) _ h14 Tryz.underlying55 rfl (infoEF _) ?_) | (with_reducible refine wpList_load_row rfl ET7 (.tmp 15) rfl b15 rfl ET7 (eF bb) (0, 0) _ h15 Tryz.underlying55 rfl (infoEF _) ?_))
  refine (Ke.out _).mono ?_
  rintro ee wc ⟨rfl, hbc⟩
  clear h14 h15
  have h16 := blkN (w := wc) rfl z4 ET7
  have hbA := hbc.alloc hbc.size (.cells z4 ET7)
  go_wp2_with (first | (with_reducible refine wpList_store_row rfl ET7 (.tmp 16) (.tmp 51) rfl wc.heap.size (eF e) rfl rfl ET7 z4 h16 (infoEF _) (sizeZE _) (oneEF _) ?_))
  have hp := hbc.size
  have F6 := hid ((F5.out).new1 hbA hp (X := eF e) h16)
  have HB6 : Hid (Below b3 w ((wc.alloc (.cells z4 ET7)).setRow wc.heap.size (eF e))) := hid (belowRow (HB5.out.trans (hbA.mono hw5)) (Nat.le_trans hw5 hp) _)
  have HM6 : Hid (w1.heap.size ≤ ((wc.alloc (.cells z4 ET7)).setRow wc.heap.size (eF e)).heap.size) := hid (by rw [size_setRow]; exact Nat.le_trans HM5.out hbA.size)
  generalize hw : ((wc.alloc (.cells z4 ET7)).setRow wc.heap.size (eF e)) = w6 at F6 HB6 HM6 ⊢
  generalize hb16 : wc.heap.size = b16 at F6 ⊢
  have hw6 : b3 ≤ w6.heap.size := by have := HB6.out.size; have := HBw.out; omega
  clear hw hb16 h16 hbA hbc hp wc
  (try simp only [Act.put, List.getElem_toArray, List.getElem_cons_succ, List.getElem_cons_zero, List.setIfInBounds_toArray, List.set_cons_zero, List.set_cons_succ])
  refine wp_region_grA 12 (by kernel_rfl) (by decide) ?_
  refine wpGrA_take (i := 0) (.agg (eF aa)) rfl (by kernel_rfl) (by kernel_rfl) (fun _ _ _ h => h) (yieldsG_part rfl ET7 (.tmp 14) rfl b14 0 rfl ET7 (eF aa) (eF aa) (0, 0) _ F6.out.2.1 (eF_allD _) Tryz.underlying55 rfl (infoEF _)) ?_
  (try simp only [Act.put, List.getElem_toArray, List.getElem_cons_succ, List.getElem_cons_zero, List.setIfInBounds_toArray, List.set_cons_zero, List.set_cons_succ])
  refine wpGrA_take (i := 1) (.agg (eF bb)) rfl (by kernel_rfl) (by kernel_rfl) (fun _ _ _ h => h) (yieldsG_part rfl ET7 (.tmp 15) rfl b15 0 rfl ET7 (eF bb) (eF bb) (0, 0) _ F6.out.2.2.1 (eF_allD _) Tryz.underlying55 rfl (infoEF _)) ?_
  (try simp only [Act.put, List.getElem_toArray, List.getElem_cons_succ, List.getElem_cons_zero, List.setIfInBounds_toArray, List.set_cons_zero, List.set_cons_succ])
  refine wpGrA_take (i := 2) (.agg (eF tx)) rfl (by kernel_rfl) (by kernel_rfl) (fun _ _ _ h => h) (yieldsG_call rfl (fun w' => by go_simp) (fun w' _ => Ktx.out w')) ?_
  (try simp only [Act.put, List.getElem_toArray, List.getElem_cons_succ, List.getElem_cons_zero, List.setIfInBounds_toArray, List.set_cons_zero, List.set_cons_succ])
  refine wpGrA_take (i := 3) (.agg (eF e)) rfl (by kernel_rfl) (by kernel_rfl) (fun _ _ _ h => h) (yieldsG_part rfl ET7 (.tmp 16) rfl b16 0 rfl ET7 (eF e) (eF e) (0, 0) _ F6.out.1 (eF_allD _) Tryz.underlying55 rfl (infoEF _)) ?_
  (try simp only [Act.put, List.getElem_toArray, List.getElem_cons_succ, List.getElem_cons_zero, List.setIfInBounds_toArray, List.set_cons_zero, List.set_cons_succ])
  refine wpGrA_take (i := 4) (.agg (eF aa)) rfl (by kernel_rfl) (by kernel_rfl) (fun _ _ _ h => h) (yieldsG_part rfl ET7 (.tmp 14) rfl b14 0 rfl ET7 (eF aa) (eF aa) (0, 0) _ F6.out.2.1 (eF_allD _) Tryz.underlying55 rfl (infoEF _)) ?_
  (try simp only [Act.put, List.getElem_toArray, List.getElem_cons_succ, List.getElem_cons_zero, List.setIfInBounds_toArray, List.set_cons_zero, List.set_cons_succ])
  refine wpGrA_take (i := 5) (.agg (eF m)) rfl (by kernel_rfl) (by kernel_rfl) (fun _ _ _ h => h) (yieldsG_call rfl (fun w' => by go_simp) (fun w' _ => Km.out w')) ?_
  (try simp only [Act.put, List.getElem_toArray, List.getElem_cons_succ, List.getElem_cons_zero, List.setIfInBounds_toArray, List.set_cons_zero, List.set_cons_succ])
  refine wpGrA_take (i := 6) (.agg (eF e)) rfl (by kernel_rfl) (by kernel_rfl) (fun _ _ _ h => h) (yieldsG_part rfl ET7 (.tmp 16) rfl b16 0 rfl ET7 (eF e) (eF e) (0, 0) _ F6.out.1 (eF_allD _) Tryz.underlying55 rfl (infoEF _)) ?_
  (try simp only [Act.put, List.getElem_toArray, List.getElem_cons_succ, List.getElem_cons_zero, List.setIfInBounds_toArray, List.set_cons_zero, List.set_cons_succ])
  refine wpGrA_take (i := 7) (.agg (eF fe)) rfl (by kernel_rfl) (by kernel_rfl) (fun _ _ _ h => h) (yieldsG_call rfl (fun w' => by go_simp) (fun w' _ => Kfe.out w')) ?_
  (try simp only [Act.put, List.getElem_toArray, List.getElem_cons_succ, List.getElem_cons_zero, List.setIfInBounds_toArray, List.set_cons_zero, List.set_cons_succ])
  refine wpGrA_take (i := 8) (.agg (eF g)) rfl (by kernel_rfl) (by kernel_rfl) (fun _ _ _ h => h) (yieldsG_call rfl (fun w' => by go_simp) (fun w' _ => Kg.out w')) ?_
  (try simp only [Act.put, List.getElem_toArray, List.getElem_cons_succ, List.getElem_cons_zero, List.setIfInBounds_toArray, List.set_cons_zero, List.set_cons_succ])
  refine wpGrA_take (i := 9) (.agg (eF tz)) rfl (by kernel_rfl) (by kernel_rfl) (fun _ _ _ h => h) (yieldsG_call rfl (fun w' => by go_simp) (fun w' _ => Ktz.out w')) ?_
  (try simp only [Act.put, List.getElem_toArray, List.getElem_cons_succ, List.getElem_cons_zero, List.setIfInBounds_toArray, List.set_cons_zero, List.set_cons_succ])
  refine wpGrA_take (i := 10) (.agg (rA tx tz)) rfl (by kernel_rfl) (by kernel_rfl) (fun _ _ _ h => h) (yieldsG_build2 rfl RTd 0 1 (.tmp 54) (.tmp 61) rfl (.agg (eF tx)) (.agg (eF tz)) rfl rfl _ (build_r tx tz)) ?_
  (try simp only [Act.put, List.getElem_toArray, List.getElem_cons_succ, List.getElem_cons_zero, List.setIfInBounds_toArray, List.set_cons_zero, List.set_cons_succ])
  refine wpGrA_alloc (i := 11) rfl rfl rfl zeroR7 (by kernel_rfl) ?_
  intro b17 wx hp h1 hb
  (try simp only [Act.put, List.getElem_toArray, List.getElem_cons_succ, List.getElem_cons_zero, List.setIfInBounds_toArray, List.set_cons_zero, List.set_cons_succ])
  have h1' := h1
  have HN7 : Hid (w1.heap.size ≤ b17) := hid (Nat.le_trans HM6.out hp)
  have HM7 : Hid (w1.heap.size ≤ (wx.setRow b17 (rA tx tz)).heap.size) := hid (by rw [size_setRow]; exact Nat.le_trans HM6.out hb.size)
  have F7 := hid ((F6.out).new1 hb hp (X := (rA tx tz)) h1)
  have HB7 : Hid (Below b3 w (wx.setRow b17 (rA tx tz))) := hid (belowRow (HB6.out.trans (hb.mono hw6)) (Nat.le_trans hw6 hp) _)
  refine wpList_store_row rfl RTd (.tmp 17) (.tmp 62) rfl b17 (rA tx tz) rfl rfl RTd z8 h1' (infoRA _ _) (sizeZR _ _) (oneRA _ _) ?_
  (try simp only [Act.put, List.getElem_toArray, List.getElem_cons_succ, List.getElem_cons_zero, List.setIfInBounds_toArray, List.set_cons_zero, List.set_cons_succ])
  generalize hw : (wx.setRow b17 (rA tx tz)) = w7 at F7 HB7 HM7 ⊢
  have hw7 : b3 ≤ w7.heap.size := by have := HB7.out.size; have := HBw.out; omega
  clear hw
  try clear h2 h2'
  try clear h1 h1'
  try clear hq hne
  clear hp hb
  clear wx
  go_wp2_with fail
  refine wp_region_grA 12 (by kernel_rfl) (by decide) ?_
  refine wpGrA_take (i := 0) (.agg (eF da)) rfl (by kernel_rfl) (by kernel_rfl) (fun _ _ _ h => h) (yieldsG_part rfl ET7 (.tmp 12) rfl b12 0 rfl ET7 (eF da) (eF da) (0, 0) _ F7.out.2.2.2.2.1 (eF_allD _) Tryz.underlying55 rfl (infoEF _)) ?_
  (try simp only [Act.put, List.getElem_toArray, List.getElem_cons_succ, List.getElem_cons_zero, List.setIfInBounds_toArray, List.set_cons_zero, List.set_cons_succ])
  refine wpGrA_take (i := 1) (.agg (eF cb)) rfl (by kernel_rfl) (by kernel_rfl) (fun _ _ _ h => h) (yieldsG_part rfl ET7 (.tmp 13) rfl b13 0 rfl ET7 (eF cb) (eF cb) (0, 0) _ F7.out.2.2.2.2.2.1 (eF_allD _) Tryz.underlying55 rfl (infoEF _)) ?_
  (try simp only [Act.put, List.getElem_toArray, List.getElem_cons_succ, List.getElem_cons_zero, List.setIfInBounds_toArray, List.set_cons_zero, List.set_cons_succ])
  refine wpGrA_take (i := 2) (.agg (eF s)) rfl (by kernel_rfl) (by kernel_rfl) (fun _ _ _ h => h) (yieldsG_call rfl (fun w' => by go_simp) (fun w' _ => Ks.out w')) ?_
  (try simp only [Act.put, List.getElem_toArray, List.getElem_cons_succ, List.getElem_cons_zero, List.setIfInBounds_toArray, List.set_cons_zero, List.set_cons_succ])
  refine wpGrA_take (i := 3) (.agg (eF s2)) rfl (by kernel_rfl) (by kernel_rfl) (fun _ _ _ h => h) (yieldsG_call rfl (fun w' => by go_simp) (fun w' _ => Ks2.out w')) ?_
  (try simp only [Act.put, List.getElem_toArray, List.getElem_cons_succ, List.getElem_cons_zero, List.setIfInBounds_toArray, List.set_cons_zero, List.set_cons_succ])
  refine wpGrA_take (i := 4) (.agg (eF u)) rfl (by kernel_rfl) (by kernel_rfl) (fun _ _ _ h => h) (yieldsG_part rfl ET7 (.tmp 5) rfl b5 0 rfl ET7 (eF u) (eF u) (0, 0) _ F7.out.2.2.2.2.2.2.2.2.2.2.2.2.1 (eF_allD _) Tryz.underlying55 rfl (infoEF _)) ?_
  (try simp only [Act.put, List.getElem_toArray, List.getElem_cons_succ, List.getElem_cons_zero, List.setIfInBounds_toArray, List.set_cons_zero, List.set_cons_succ])
  refine wpGrA_take (i := 5) (.agg (eF da)) rfl (by kernel_rfl) (by kernel_rfl) (fun _ _ _ h => h) (yieldsG_part rfl ET7 (.tmp 12) rfl b12 0 rfl ET7 (eF da) (eF da) (0, 0) _ F7.out.2.2.2.2.1 (eF_allD _) Tryz.underlying55 rfl (infoEF _)) ?_
  (try simp only [Act.put, List.getElem_toArray, List.getElem_cons_succ, List.getElem_cons_zero, List.setIfInBounds_toArray, List.set_cons_zero, List.set_cons_succ])
  refine wpGrA_take (i := 6) (.agg (eF cb)) rfl (by kernel_rfl) (by kernel_rfl) (fun _ _ _ h => h) (yieldsG_part rfl ET7 (.tmp 13) rfl b13 0 rfl ET7 (eF cb) (eF cb) (0, 0) _ F7.out.2.2.2.2.2.1 (eF_allD _) Tryz.underlying55 rfl (infoEF _)) ?_
  (try simp only [Act.put, List.getElem_toArray, List.getElem_cons_succ, List.getElem_cons_zero, List.setIfInBounds_toArray, List.set_cons_zero, List.set_cons_succ])
  refine wpGrA_take (i := 7) (.agg (eF t)) rfl (by kernel_rfl) (by kernel_rfl) (fun _ _ _ h => h) (yieldsG_call rfl (fun w' => by go_simp) (fun w' _ => Kt.out w')) ?_
  (try simp only [Act.put, List.getElem_toArray, List.getElem_cons_succ, List.getElem_cons_zero, List.setIfInBounds_toArray, List.set_cons_zero, List.set_cons_succ])
  refine wpGrA_take (i := 8) (.agg (eF t2)) rfl (by kernel_rfl) (by kernel_rfl) (fun _ _ _ h => h) (yieldsG_call rfl (fun w' => by go_simp) (fun w' _ => Kt2.out w')) ?_
  (try simp only [Act.put, List.getElem_toArray, List.getElem_cons_succ, List.getElem_cons_zero, List.setIfInBounds_toArray, List.set_cons_zero, List.set_cons_succ])
  refine wpGrA_take (i := 9) (.agg (eF ut)) rfl (by kernel_rfl) (by kernel_rfl) (fun _ _ _ h => h) (yieldsG_call rfl (fun w' => by go_simp) (fun w' _ => Kut.out w')) ?_
  (try simp only [Act.put, List.getElem_toArray, List.getElem_cons_succ, List.getElem_cons_zero, List.setIfInBounds_toArray, List.set_cons_zero, List.set_cons_succ])
  refine wpGrA_take (i := 10) (.agg (rA s2 ut)) rfl (by kernel_rfl) (by kernel_rfl) (fun _ _ _ h => h) (yieldsG_build2 rfl RTd 0 1 (.tmp 66) (.tmp 72) rfl (.agg (eF s2)) (.agg (eF ut)) rfl rfl _ (build_r s2 ut)) ?_
  (try simp only [Act.put, List.getElem_toArray, List.getElem_cons_succ, List.getElem_cons_zero, List.setIfInBounds_toArray, List.set_cons_zero, List.set_cons_succ])
  refine wpGrA_alloc (i := 11) rfl rfl rfl zeroR7 (by kernel_rfl) ?_
  intro b18 wx hp h1 hb
  (try simp only [Act.put, List.getElem_toArray, List.getElem_cons_succ, List.getElem_cons_zero, List.setIfInBounds_toArray, List.set_cons_zero, List.set_cons_succ])
  have h1' := h1
  have HN8 : Hid (w1.heap.size ≤ b18) := hid (Nat.le_trans HM7.out hp)
  have HM8 : Hid (w1.heap.size ≤ (wx.setRow b18 (rA s2 ut)).heap.size) := hid (by rw [size_setRow]; exact Nat.le_trans HM7.out hb.size)
  have F8 := hid ((F7.out).new1 hb hp (X := (rA s2 ut)) h1)
  have HB8 : Hid (Below b3 w (wx.setRow b18 (rA s2 ut))) := hid (belowRow (HB7.out.trans (hb.mono hw7)) (Nat.le_trans hw7 hp) _)
  refine wpList_store_row rfl RTd (.tmp 18) (.tmp 73) rfl b18 (rA s2 ut) rfl rfl RTd z8 h1' (infoRA _ _) (sizeZR _ _) (oneRA _ _) ?_
  (try simp only [Act.put, List.getElem_toArray, List.getElem_cons_succ, List.getElem_cons_zero, List.setIfInBounds_toArray, List.set_cons_zero, List.set_cons_succ])
  generalize hw : (wx.setRow b18 (rA s2 ut)) = w8 at F8 HB8 HM8 ⊢
  have hw8 : b3 ≤ w8.heap.size := by have := HB8.out.size; have := HBw.out; omega
  clear hw
  try clear h2 h2'
  try clear h1 h1'
  try clear hq hne
  clear hp hb
  clear wx
  go_wp2_with fail
  have H17 := F8.out.2.1
  have H18 := F8.out.1
  have H6 : w8.heap[b6]? = some (.cells z8 RTd (0, 0)) := F8.out.2.2.2.2.2.2.2.2.2.2.2.2.2.2.1
  have H7 : w8.heap[b7]? = some (.cells z8 RTd (0, 0)) := F8.out.2.2.2.2.2.2.2.2.2.2.2.2.2.2.2.1
  have HS : Cl w8.drew [(b17, rA tx tz, RTd), (b18, rA s2 ut, RTd)] := ⟨H17, H18, trivial⟩
  have hB6 : b3 ≤ b6 := by have := HB67.out.1; omega
  have hB7 : b3 ≤ b7 := by have := HB67.out.2.1; omega
  have hn1 : b17 ≠ b6 := by have := HB67.out.2.2.1; have := HN7.out; omega
  have hn2 : b18 ≠ b6 := by have := HB67.out.2.2.1; have := HN8.out; omega
  have hn3 : b17 ≠ b7 := by have := HB67.out.2.2.2.1; have := HN7.out; omega
  have hn4 : b18 ≠ b7 := by have := HB67.out.2.2.2.1; have := HN8.out; omega
  have hn5 : b7 ≠ b6 := HB67.out.2.2.2.2
  refine wp_region_held_drew (S := fun W => Cl W [(b17, rA tx tz, RTd), (b18, rA s2 ut, RTd)]) (by kernel_rfl) HS (fun _ => ?_)
  refine wpAnyH_take (i := 0) (v := .agg (rA tx tz)) rfl (by kernel_rfl) (by kernel_rfl) (by kernel_rfl) (fun _ _ _ h => h) (yieldsIf_part rfl RTd (.tmp 17) rfl b17 0 rfl RTd (rA tx tz) (rA tx tz) (0, 0) _ (fun _ h => h.1) (rA_all _ _) Tryz.underlying87 rfl (infoRA _ _)) HS ?_
  (try simp only [Act.put, List.getElem_toArray, List.getElem_cons_succ, List.getElem_cons_zero, List.setIfInBounds_toArray, List.set_cons_zero, List.set_cons_succ])
  refine wpAnyH_take (i := 1) (v := .agg (rA s2 ut)) rfl (by kernel_rfl) (by kernel_rfl) (by kernel_rfl) (fun _ _ _ h => h) (yieldsIf_part rfl RTd (.tmp 18) rfl b18 0 rfl RTd (rA s2 ut) (rA s2 ut) (0, 0) _ (fun _ h => h.2.1) (rA_all _ _) Tryz.underlying87 rfl (infoRA _ _)) HS ?_
  (try simp only [Act.put, List.getElem_toArray, List.getElem_cons_succ, List.getElem_cons_zero, List.setIfInBounds_toArray, List.set_cons_zero, List.set_cons_succ])
  refine wpAnyH_all (rs := [2]) (by kernel_rfl) (by simp) ?_
  intro i hi
  obtain rfl := List.mem_singleton.1 hi
  have HS2 := Cl.row (rA tx tz) (b := b6) (by intro p hp; simp only [List.mem_cons, List.not_mem_nil, or_false] at hp; rcases hp with rfl | rfl; exact hn1; exact hn2) HS
  refine wpOp_store_row rfl rfl RTd (.tmp 6) (.tmp 74) rfl b6 (rA tx tz) rfl rfl RTd z8 H6 (infoRA _ _) (sizeZR _ _) (oneRA _ _) ⟨HS2, ?_⟩
  (try simp only [Act.put, List.getElem_toArray, List.getElem_cons_succ, List.getElem_cons_zero, List.setIfInBounds_toArray, List.set_cons_zero, List.set_cons_succ])
  refine wpAnyH_all (rs := [3]) (by kernel_rfl) (by simp) ?_
  intro i hi
  obtain rfl := List.mem_singleton.1 hi
  have HS3 := Cl.row (rA s2 ut) (b := b7) (by intro p hp; simp only [List.mem_cons, List.not_mem_nil, or_false] at hp; rcases hp with rfl | rfl; exact hn3; exact hn4) HS2
  have H7' : (w8.drew.setRow b6 (rA tx tz)).heap[b7]? = some (.cells z8 RTd (0, 0)) := (setRow_other _ _ _ _ hn5).trans H7
  refine wpOp_store_row rfl rfl RTd (.tmp 7) (.tmp 75) rfl b7 (rA s2 ut) rfl rfl RTd z8 H7' (infoRA _ _) (sizeZR _ _) (oneRA _ _) ⟨HS3, ?_⟩
  (try simp only [Act.put, List.getElem_toArray, List.getElem_cons_succ, List.getElem_cons_zero, List.setIfInBounds_toArray, List.set_cons_zero, List.set_cons_succ])
  refine wpAnyH_done (by kernel_rfl) ?_ _
  have K6 : ((w8.drew.setRow b6 (rA tx tz)).setRow b7 (rA s2 ut)).heap[b6]? = some (.cells (rA tx tz) RTd (0, 0)) := (setRow_other _ _ _ _ (Ne.symm hn5)).trans (setRow_heap _ _ _ _ _ _ H6)
  have K7 : ((w8.drew.setRow b6 (rA tx tz)).setRow b7 (rA s2 ut)).heap[b7]? = some (.cells (rA s2 ut) RTd (0, 0)) := setRow_heap _ _ _ _ _ _ H7'
  have HBZ := belowRow (belowRow HB8.out.drew hB6 (rA tx tz)) hB7 (rA s2 ut)
  generalize hw9 : ((w8.drew.setRow b6 (rA tx tz)).setRow b7 (rA s2 ut)) = w9 at K6 K7 HBZ ⊢
  clear hw9 H17 H18 H6 H7 H7' HS HS2 HS3
  go_wp2_with fail
  refine bodyPost_ret (v := .tuple #[.agg (rA tx tz), .agg (rA s2 ut)]) (results_two_e rfl _ _ ⟨b6, 0, none⟩ ⟨b7, 0, none⟩ _ _ rfl rfl (run_loadVar_row _ _ RTd RTd _ (0, 0) _ K6 Tryz.underlying87 rfl (infoRA _ _)) (run_loadVar_row _ _ RTd RTd _ (0, 0) _ K7 Tryz.underlying87 rfl (infoRA _ _))) rfl ⟨rfl, ?_⟩
  rw [HBw.out]
  exact HBZ
end
section
open Go Go.RowKit
set_option linter.unusedVariables false
set_option linter.unusedSimpArgs false
theorem Sw_start (w : World) (X Y : Array Value) : Cl ((((w.alloc (.cells X RTd)).alloc (.cells Y RTd)).alloc (.cells z8 RTd)).alloc (.cells z8 RTd))
    [(w.heap.size, X, RTd), (w.heap.size + 1, Y, RTd), (w.heap.size + 1 + 1, z8, RTd), (w.heap.size + 1 + 1 + 1, z8, RTd)] :=
  ⟨blkA (blkA (blkA (blkN rfl X RTd) _) _) _, blkA (blkA (blkN (by simp) Y RTd) _) _, blkA (blkN (by simp) z8 RTd) _, blkN (by simp) z8 RTd, trivial⟩
set_option maxRecDepth 100000 in
set_option maxHeartbeats 4000000 in
theorem Swapped0_e (x z x' z' : FF) (w : World) : Calls Tryz.prog 79 #[.int .u8 0, .agg (rA x z), .agg (rA x' z')] w fun e w' => e = .returned (.tuple #[.agg (rA x z), .agg (rA x' z')]) ∧ Below w.heap.size w w' := by
  have F0 := hid (Sw_start w (rA x z) (rA x' z'))
  have HB0 : Hid (Below w.heap.size w ((((w.alloc (.cells (rA x z) RTd)).alloc (.cells (rA x' z') RTd)).alloc (.cells z8 RTd)).alloc (.cells z8 RTd))) := hid (((((Below.refl _ _).alloc (Nat.le_refl _) _).alloc (by simp) _).alloc (by simp; omega) _).alloc (by simp; omega) _)
  obtain ⟨w1, hw1⟩ : ∃ w1, w1 = ((((w.alloc (.cells (rA x z) RTd)).alloc (.cells (rA x' z') RTd)).alloc (.cells z8 RTd)).alloc (.cells z8 RTd)) := ⟨_, rfl⟩
  rw [← hw1] at F0 HB0
  have X1 := F0.out.1
  have X2 := F0.out.2.1
  have X3 := F0.out.2.2.1
  have X4 := F0.out.2.2.2.1
  go_enter Tryz.func79, Tryz.ntmps79
  have X8 : (w1.alloc (.cells z16 RT2)).heap[w.heap.size + 1 + 1 + 1 + 1]? = some (.cells z16 RT2 (0, 0)) := blkN (by rw [hw1]; simp) _ _
  have HB2 : Hid (Below w.heap.size w ((w1.alloc (.cells z16 RT2)).setRow (w.heap.size + 1 + 1 + 1 + 1) (rB x z x' z'))) := hid (belowRow (HB0.out.alloc HB0.out.size _) (by omega) _)
  have H6 : Hid (((w1.alloc (.cells z16 RT2)).setRow (w.heap.size + 1 + 1 + 1 + 1) (rB x z x' z')).heap[w.heap.size + 1 + 1]? = some (.cells z8 RTd (0, 0))) := hid ((setRow_other _ _ _ _ (by omega)).trans (blkA X3 _))
  have H7 : Hid (((w1.alloc (.cells z16 RT2)).setRow (w.heap.size + 1 + 1 + 1 + 1) (rB x z x' z')).heap[w.heap.size + 1 + 1 + 1]? = some (.cells z8 RTd (0, 0))) := hid ((setRow_other _ _ _ _ (by omega)).trans (blkA X4 _))
  have H8 : Hid (((w1.alloc (.cells z16 RT2)).setRow (w.heap.size + 1 + 1 + 1 + 1) (rB x z x' z')).heap[w.heap.size + 1 + 1 + 1 + 1]? = some (.cells (rB x z x' z') RT2 (0, 0))) := hid (setRow_heap _ _ _ _ _ _ X8)
  rw [hw1] at X1 X2 X8
  go_wp2_with (first
    | (with_reducible refine wpList_load_row rfl RTd (.tmp 4) rfl w.heap.size rfl RTd (rA x z) (0, 0) _ X1 Tryz.underlying87 rfl (infoRA _ _) ?_)
    | (with_reducible refine wpList_load_row rfl RTd (.tmp 5) rfl (w.heap.size + 1) rfl RTd (rA x' z') (0, 0) _ X2 Tryz.underlying87 rfl (infoRA _ _) ?_)
    | (with_reducible refine wpList_build2 rfl RT2 0 1 (.tmp 9) (.tmp 10) rfl (.agg (rA x z)) (.agg (rA x' z')) rfl rfl _ (build_b x z x' z') ?_)
    | (with_reducible refine wpList_store_row rfl RT2 (.tmp 8) (.tmp 11) rfl (w.heap.size + 1 + 1 + 1 + 1) (rB x z x' z') rfl rfl RT2 z16 X8 (infoRB _ _ _ _) (sizeZB _ _ _ _) (oneRB _ _ _ _) ?_)
    )
  have hwb : (((((w.alloc (.cells (rA x z) RTd)).alloc (.cells (rA x' z') RTd)).alloc (.cells z8 RTd)).alloc (.cells z8 RTd)).alloc (.cells z16 RT2)) = w1.alloc (.cells z16 RT2) := by rw [hw1]
  rw [← hwb] at HB2 H6 H7 H8
  generalize hw2 : ((((((w.alloc (.cells (rA x z) RTd)).alloc (.cells (rA x' z') RTd)).alloc (.cells z8 RTd)).alloc (.cells z8 RTd)).alloc (.cells z16 RT2)).setRow (w.heap.size + 1 + 1 + 1 + 1) (rB x z x' z')) = w2 at HB2 H6 H7 H8 ⊢
  clear hw2 hw1 hwb X1 X2 X3 X4 X8 F0 HB0
  generalize hb8 : w.heap.size + 1 + 1 + 1 + 1 = b8 at H8 ⊢
  generalize hb7 : w.heap.size + 1 + 1 + 1 = b7 at H7 ⊢
  generalize hb6 : w.heap.size + 1 + 1 = b6 at H6 ⊢
  generalize hb5 : w.heap.size + 1 = b5
  generalize hb4 : w.heap.size = b4
  have hn1 : b8 ≠ b6 := by omega
  have hn2 : b8 ≠ b7 := by omega
  have hn3 : b7 ≠ b6 := by omega
  have HS : w2.drew.heap[b8]? = some (.cells (rB x z x' z') RT2 (0, 0)) := H8.out
  have K6 : w2.drew.heap[b6]? = some (.cells z8 RTd (0, 0)) := H6.out
  have K7 : (w2.drew.setRow b6 (rA x z)).heap[b7]? = some (.cells z8 RTd (0, 0)) := (setRow_other _ _ _ _ hn3).trans H7.out
  refine wp_region_held_drew (S := fun W => W.heap[b8]? = some (.cells (rB x z x' z') RT2 (0, 0))) (by kernel_rfl) HS (fun _ => ?_)
  refine wpAnyH_take (i := 0) (v := .int .u8 0) rfl (by kernel_rfl) (by kernel_rfl) (by kernel_rfl) (fun _ _ _ h => h) (yieldsIf_val _ rfl (fun w' _ => by (go_simp; try rfl))) HS ?_
  (try simp only [Act.put, List.getElem_toArray, List.getElem_cons_succ, List.getElem_cons_zero, List.setIfInBounds_toArray, List.set_cons_zero, List.set_cons_succ])
  refine wpAnyH_take (i := 3) (v := .int .u8 0) rfl (by kernel_rfl) (by kernel_rfl) (by kernel_rfl) (fun _ _ _ h => h) (yieldsIf_val _ rfl (fun w' _ => by (go_simp; try rfl))) HS ?_
  (try simp only [Act.put, List.getElem_toArray, List.getElem_cons_succ, List.getElem_cons_zero, List.setIfInBounds_toArray, List.set_cons_zero, List.set_cons_succ])
  refine wpAnyH_take (i := 4) (v := .int .u8 1) rfl (by kernel_rfl) (by kernel_rfl) (by kernel_rfl) (fun _ _ _ h => h) (yieldsIf_val _ rfl (fun w' _ => by (go_simp; try rfl))) HS ?_
  (try simp only [Act.put, List.getElem_toArray, List.getElem_cons_succ, List.getElem_cons_zero, List.setIfInBounds_toArray, List.set_cons_zero, List.set_cons_succ])
  refine wpAnyH_take (i := 1) (v := .pointer (some ⟨b8, 0, none⟩)) rfl (by kernel_rfl) (by kernel_rfl) (by kernel_rfl) (fun _ _ _ h => h) (yieldsIf_val _ rfl (fun w' _ => by (go_simp; try rfl))) HS ?_
  (try simp only [Act.put, List.getElem_toArray, List.getElem_cons_succ, List.getElem_cons_zero, List.setIfInBounds_toArray, List.set_cons_zero, List.set_cons_succ])
  refine wpAnyH_take (i := 2) (v := .agg (rA x z)) rfl (by kernel_rfl) (by kernel_rfl) (by kernel_rfl) (fun _ _ _ h => h) (yieldsIf_part rfl RTd (.tmp 13) rfl b8 0 rfl RT2 (rB x z x' z') (rA x z) (0, 0) _ (fun _ h => h) (rB_lo _ _ _ _) Tryz.underlying87 rfl (infoRA _ _)) HS ?_
  (try simp only [Act.put, List.getElem_toArray, List.getElem_cons_succ, List.getElem_cons_zero, List.setIfInBounds_toArray, List.set_cons_zero, List.set_cons_succ])
  refine wpAnyH_take (i := 5) (v := .pointer (some ⟨b8, 8, none⟩)) rfl (by kernel_rfl) (by kernel_rfl) (by kernel_rfl) (fun _ _ _ h => h) (yieldsIf_val _ rfl (fun w' _ => by (go_simp; try rfl))) HS ?_
  (try simp only [Act.put, List.getElem_toArray, List.getElem_cons_succ, List.getElem_cons_zero, List.setIfInBounds_toArray, List.set_cons_zero, List.set_cons_succ])
  refine wpAnyH_take (i := 6) (v := .agg (rA x' z')) rfl (by kernel_rfl) (by kernel_rfl) (by kernel_rfl) (fun _ _ _ h => h) (yieldsIf_part rfl RTd (.tmp 17) rfl b8 8 rfl RT2 (rB x z x' z') (rA x' z') (0, 0) _ (fun _ h => h) (rB_hi _ _ _ _) Tryz.underlying87 rfl (infoRA _ _)) HS ?_
  (try simp only [Act.put, List.getElem_toArray, List.getElem_cons_succ, List.getElem_cons_zero, List.setIfInBounds_toArray, List.set_cons_zero, List.set_cons_succ])
  refine wpAnyH_all (rs := [7]) (by kernel_rfl) (by simp) ?_
  intro i hi
  obtain rfl := List.mem_singleton.1 hi
  have HS2 : (w2.drew.setRow b6 (rA x z)).heap[b8]? = some (.cells (rB x z x' z') RT2 (0, 0)) := (setRow_other _ _ _ _ hn1).trans HS
  refine wpOp_store_row rfl rfl RTd (.tmp 6) (.tmp 14) rfl b6 (rA x z) rfl rfl RTd z8 K6 (infoRA _ _) (sizeZR _ _) (oneRA _ _) ⟨HS2, ?_⟩
  (try simp only [Act.put, List.getElem_toArray, List.getElem_cons_succ, List.getElem_cons_zero, List.setIfInBounds_toArray, List.set_cons_zero, List.set_cons_succ])
  refine wpAnyH_all (rs := [8]) (by kernel_rfl) (by simp) ?_
  intro i hi
  obtain rfl := List.mem_singleton.1 hi
  refine wpOp_store_row rfl rfl RTd (.tmp 7) (.tmp 18) rfl b7 (rA x' z') rfl rfl RTd z8 K7 (infoRA _ _) (sizeZR _ _) (oneRA _ _) ⟨(setRow_other _ _ _ _ hn2).trans HS2, ?_⟩
  (try simp only [Act.put, List.getElem_toArray, List.getElem_cons_succ, List.getElem_cons_zero, List.setIfInBounds_toArray, List.set_cons_zero, List.set_cons_succ])
  refine wpAnyH_done (by kernel_rfl) ?_ _
  have J6 : ((w2.drew.setRow b6 (rA x z)).setRow b7 (rA x' z')).heap[b6]? = some (.cells (rA x z) RTd (0, 0)) := (setRow_other _ _ _ _ (Ne.symm hn3)).trans (setRow_heap _ _ _ _ _ _ K6)
  have J7 : ((w2.drew.setRow b6 (rA x z)).setRow b7 (rA x' z')).heap[b7]? = some (.cells (rA x' z') RTd (0, 0)) := setRow_heap _ _ _ _ _ _ K7
  have HBZ := belowRow (belowRow HB2.out.drew (by omega : w.heap.size ≤ b6) (rA x z)) (by omega : w.heap.size ≤ b7) (rA x' z')
  generalize hw9 : ((w2.drew.setRow b6 (rA x z)).setRow b7 (rA x' z')) = w9 at J6 J7 HBZ ⊢
  clear hw9
  go_wp2_with fail
  exact bodyPost_ret (v := .tuple #[.agg (rA x z), .agg (rA x' z')]) (results_two_e rfl _ _ ⟨b6, 0, none⟩ ⟨b7, 0, none⟩ _ _ rfl rfl (run_loadVar_row _ _ RTd RTd _ (0, 0) _ J6 Tryz.underlying87 rfl (infoRA _ _)) (run_loadVar_row _ _ RTd RTd _ (0, 0) _ J7 Tryz.underlying87 rfl (infoRA _ _))) rfl ⟨rfl, HBZ⟩
set_option maxRecDepth 100000 in
set_option maxHeartbeats 4000000 in
theorem Swapped1_e (x z x' z' : FF) (w : World) : Calls Tryz.prog 79 #[.int .u8 1, .agg (rA x z), .agg (rA x' z')] w fun e w' => e = .returned (.tuple #[.agg (rA x' z'), .agg (rA x z)]) ∧ Below w.heap.size w w' := by
  have F0 := hid (Sw_start w (rA x z) (rA x' z'))
  have HB0 : Hid (Below w.heap.size w ((((w.alloc (.cells (rA x z) RTd)).alloc (.cells (rA x' z') RTd)).alloc (.cells z8 RTd)).alloc (.cells z8 RTd))) := hid (((((Below.refl _ _).alloc (Nat.le_refl _) _).alloc (by simp) _).alloc (by simp; omega) _).alloc (by simp; omega) _)
  obtain ⟨w1, hw1⟩ : ∃ w1, w1 = ((((w.alloc (.cells (rA x z) RTd)).alloc (.cells (rA x' z') RTd)).alloc (.cells z8 RTd)).alloc (.cells z8 RTd)) := ⟨_, rfl⟩
  rw [← hw1] at F0 HB0
  have X1 := F0.out.1
  have X2 := F0.out.2.1
  have X3 := F0.out.2.2.1
  have X4 := F0.out.2.2.2.1
  go_enter Tryz.func79, Tryz.ntmps79
  have X8 : (w1.alloc (.cells z16 RT2)).heap[w.heap.size + 1 + 1 + 1 + 1]? = some (.cells z16 RT2 (0, 0)) := blkN (by rw [hw1]; simp) _ _
  have HB2 : Hid (Below w.heap.size w ((w1.alloc (.cells z16 RT2)).setRow (w.heap.size + 1 + 1 + 1 + 1) (rB x z x' z'))) := hid (belowRow (HB0.out.alloc HB0.out.size _) (by omega) _)
  have H6 : Hid (((w1.alloc (.cells z16 RT2)).setRow (w.heap.size + 1 + 1 + 1 + 1) (rB x z x' z')).heap[w.heap.size + 1 + 1]? = some (.cells z8 RTd (0, 0))) := hid ((setRow_other _ _ _ _ (by omega)).trans (blkA X3 _))
  have H7 : Hid (((w1.alloc (.cells z16 RT2)).setRow (w.heap.size + 1 + 1 + 1 + 1) (rB x z x' z')).heap[w.heap.size + 1 + 1 + 1]? = some (.cells z8 RTd (0, 0))) := hid ((setRow_other _ _ _ _ (by omega)).trans (blkA X4 _))
  have H8 : Hid (((w1.alloc (.cells z16 RT2)).setRow (w.heap.size + 1 + 1 + 1 + 1) (rB x z x' z')).heap[w.heap.size + 1 + 1 + 1 + 1]? = some (.cells (rB x z x' z') RT2 (0, 0))) := hid (setRow_heap _ _ _ _ _ _ X8)
  rw [hw1] at X1 X2 X8
  go_wp2_with (first
    | (with_reducible refine wpList_load_row rfl RTd (.tmp 4) rfl w.heap.size rfl RTd (rA x z) (0, 0) _ X1 Tryz.underlying87 rfl (infoRA _ _) ?_)
    | (with_reducible refine wpList_load_row rfl RTd (.tmp 5) rfl (w.heap.size + 1) rfl RTd (rA x' z') (0, 0) _ X2 Tryz.underlying87 rfl (infoRA _ _) ?_)
    | (with_reducible refine wpList_build2 rfl RT2 0 1 (.tmp 9) (.tmp 10) rfl (.agg (rA x z)) (.agg (rA x' z')) rfl rfl _ (build_b x z x' z') ?_)
    | (with_reducible refine wpList_store_row rfl RT2 (.tmp 8) (.tmp 11) rfl (w.heap.size + 1 + 1 + 1 + 1) (rB x z x' z') rfl rfl RT2 z16 X8 (infoRB _ _ _ _) (sizeZB _ _ _ _) (oneRB _ _ _ _) ?_)
    )
  have hwb : (((((w.alloc (.cells (rA x z) RTd)).alloc (.cells (rA x' z') RTd)).alloc (.cells z8 RTd)).alloc (.cells z8 RTd)).alloc (.cells z16 RT2)) = w1.alloc (.cells z16 RT2) := by rw [hw1]
  rw [← hwb] at HB2 H6 H7 H8
  generalize hw2 : ((((((w.alloc (.cells (rA x z) RTd)).alloc (.cells (rA x' z') RTd)).alloc (.cells z8 RTd)).alloc (.cells z8 RTd)).alloc (.cells z16 RT2)).setRow (w.heap.size + 1 + 1 + 1 + 1) (rB x z x' z')) = w2 at HB2 H6 H7 H8 ⊢
  clear hw2 hw1 hwb X1 X2 X3 X4 X8 F0 HB0
  generalize hb8 : w.heap.size + 1 + 1 + 1 + 1 = b8 at H8 ⊢
  generalize hb7 : w.heap.size + 1 + 1 + 1 = b7 at H7 ⊢
  generalize hb6 : w.heap.size + 1 + 1 = b6 at H6 ⊢
  generalize hb5 : w.heap.size + 1 = b5
  generalize hb4 : w.heap.size = b4
  have hn1 : b8 ≠ b6 := by omega
  have hn2 : b8 ≠ b7 := by omega
  have hn3 : b7 ≠ b6 := by omega
  have HS : w2.drew.heap[b8]? = some (.cells (rB x z x' z') RT2 (0, 0)) := H8.out
  have K6 : w2.drew.heap[b6]? = some (.cells z8 RTd (0, 0)) := H6.out
  have K7 : (w2.drew.setRow b6 (rA x' z')).heap[b7]? = some (.cells z8 RTd (0, 0)) := (setRow_other _ _ _ _ hn3).trans H7.out
  refine wp_region_held_drew (S := fun W => W.heap[b8]? = some (.cells (rB x z x' z') RT2 (0, 0))) (by kernel_rfl) HS (fun _ => ?_)
  refine wpAnyH_take (i := 0) (v := .int .u8 1) rfl (by kernel_rfl) (by kernel_rfl) (by kernel_rfl) (fun _ _ _ h => h) (yieldsIf_val _ rfl (fun w' _ => by (go_simp; try rfl))) HS ?_
  (try simp only [Act.put, List.getElem_toArray, List.getElem_cons_succ, List.getElem_cons_zero, List.setIfInBounds_toArray, List.set_cons_zero, List.set_cons_succ])
  refine wpAnyH_take (i := 3) (v := .int .u8 1) rfl (by kernel_rfl) (by kernel_rfl) (by kernel_rfl) (fun _ _ _ h => h) (yieldsIf_val _ rfl (fun w' _ => by (go_simp; try rfl))) HS ?_
  (try simp only [Act.put, List.getElem_toArray, List.getElem_cons_succ, List.getElem_cons_zero, List.setIfInBounds_toArray, List.set_cons_zero, List.set_cons_succ])
  refine wpAnyH_take (i := 4) (v := .int .u8 0) rfl (by kernel_rfl) (by kernel_rfl) (by kernel_rfl) (fun _ _ _ h => h) (yieldsIf_val _ rfl (fun w' _ => by (go_simp; try rfl))) HS ?_
  (try simp only [Act.put, List.getElem_toArray, List.getElem_cons_succ, List.getElem_cons_zero, List.setIfInBounds_toArray, List.set_cons_zero, List.set_cons_succ])
  refine wpAnyH_take (i := 1) (v := .pointer (some ⟨b8, 8, none⟩)) rfl (by kernel_rfl) (by kernel_rfl) (by kernel_rfl) (fun _ _ _ h => h) (yieldsIf_val _ rfl (fun w' _ => by (go_simp; try rfl))) HS ?_
  (try simp only [Act.put, List.getElem_toArray, List.getElem_cons_succ, List.getElem_cons_zero, List.setIfInBounds_toArray, List.set_cons_zero, List.set_cons_succ])
  refine wpAnyH_take (i := 2) (v := .agg (rA x' z')) rfl (by kernel_rfl) (by kernel_rfl) (by kernel_rfl) (fun _ _ _ h => h) (yieldsIf_part rfl RTd (.tmp 13) rfl b8 8 rfl RT2 (rB x z x' z') (rA x' z') (0, 0) _ (fun _ h => h) (rB_hi _ _ _ _) Tryz.underlying87 rfl (infoRA _ _)) HS ?_
  (try simp only [Act.put, List.getElem_toArray, List.getElem_cons_succ, List.getElem_cons_zero, List.setIfInBounds_toArray, List.set_cons_zero, List.set_cons_succ])
  refine wpAnyH_take (i := 5) (v := .pointer (some ⟨b8, 0, none⟩)) rfl (by kernel_rfl) (by kernel_rfl) (by kernel_rfl) (fun _ _ _ h => h) (yieldsIf_val _ rfl (fun w' _ => by (go_simp; try rfl))) HS ?_
  (try simp only [Act.put, List.getElem_toArray, List.getElem_cons_succ, List.getElem_cons_zero, List.setIfInBounds_toArray, List.set_cons_zero, List.set_cons_succ])
  refine wpAnyH_take (i := 6) (v := .agg (rA x z)) rfl (by kernel_rfl) (by kernel_rfl) (by kernel_rfl) (fun _ _ _ h => h) (yieldsIf_part rfl RTd (.tmp 17) rfl b8 0 rfl RT2 (rB x z x' z') (rA x z) (0, 0) _ (fun _ h => h) (rB_lo _ _ _ _) Tryz.underlying87 rfl (infoRA _ _)) HS ?_
  (try simp only [Act.put, List.getElem_toArray, List.getElem_cons_succ, List.getElem_cons_zero, List.setIfInBounds_toArray, List.set_cons_zero, List.set_cons_succ])
  refine wpAnyH_all (rs := [7]) (by kernel_rfl) (by simp) ?_
  intro i hi
  obtain rfl := List.mem_singleton.1 hi
  have HS2 : (w2.drew.setRow b6 (rA x' z')).heap[b8]? = some (.cells (rB x z x' z') RT2 (0, 0)) := (setRow_other _ _ _ _ hn1).trans HS
  refine wpOp_store_row rfl rfl RTd (.tmp 6) (.tmp 14) rfl b6 (rA x' z') rfl rfl RTd z8 K6 (infoRA _ _) (sizeZR _ _) (oneRA _ _) ⟨HS2, ?_⟩
  (try simp only [Act.put, List.getElem_toArray, List.getElem_cons_succ, List.getElem_cons_zero, List.setIfInBounds_toArray, List.set_cons_zero, List.set_cons_succ])
  refine wpAnyH_all (rs := [8]) (by kernel_rfl) (by simp) ?_
  intro i hi
  obtain rfl := List.mem_singleton.1 hi
  refine wpOp_store_row rfl rfl RTd (.tmp 7) (.tmp 18) rfl b7 (rA x z) rfl rfl RTd z8 K7 (infoRA _ _) (sizeZR _ _) (oneRA _ _) ⟨(setRow_other _ _ _ _ hn2).trans HS2, ?_⟩
  (try simp only [Act.put, List.getElem_toArray, List.getElem_cons_succ, List.getElem_cons_zero, List.setIfInBounds_toArray, List.set_cons_zero, List.set_cons_succ])
  refine wpAnyH_done (by kernel_rfl) ?_ _
  have J6 : ((w2.drew.setRow b6 (rA x' z')).setRow b7 (rA x z)).heap[b6]? = some (.cells (rA x' z') RTd (0, 0)) := (setRow_other _ _ _ _ (Ne.symm hn3)).trans (setRow_heap _ _ _ _ _ _ K6)
  have J7 : ((w2.drew.setRow b6 (rA x' z')).setRow b7 (rA x z)).heap[b7]? = some (.cells (rA x z) RTd (0, 0)) := setRow_heap _ _ _ _ _ _ K7
  have HBZ := belowRow (belowRow HB2.out.drew (by omega : w.heap.size ≤ b6) (rA x' z')) (by omega : w.heap.size ≤ b7) (rA x z)
  generalize hw9 : ((w2.drew.setRow b6 (rA x' z')).setRow b7 (rA x z)) = w9 at J6 J7 HBZ ⊢
  clear hw9
  go_wp2_with fail
  exact bodyPost_ret (v := .tuple #[.agg (rA x' z'), .agg (rA x z)]) (results_two_e rfl _ _ ⟨b6, 0, none⟩ ⟨b7, 0, none⟩ _ _ rfl rfl (run_loadVar_row _ _ RTd RTd _ (0, 0) _ J6 Tryz.underlying87 rfl (infoRA _ _)) (run_loadVar_row _ _ RTd RTd _ (0, 0) _ J7 Tryz.underlying87 rfl (infoRA _ _))) rfl ⟨rfl, HBZ⟩
end
section
open Go Go.RowKit
set_option linter.unusedVariables false
set_option linter.unusedSimpArgs false
set_option exponentiation.threshold 600
/-- Swapped, if the bit is 1. -/
def Ld.sw (t : Nat) (s : Ld) : Ld := if t = 1 then s.swap else s
theorem Ld.step_sw (u : FF) (t : Nat) (ht : t < 2) (s : Ld) : s.step u (t == 1) = ((s.sw t).core u).sw t := by
  unfold Ld.step Ld.sw
  rcases (by omega : t = 0 ∨ t = 1) with rfl | rfl
  · simp
  · simp
abbrev r2 (s : Ld) : Array Value := rA s.x2 s.z2
abbrev r3 (s : Ld) : Array Value := rA s.x3 s.z3
theorem Swap_e (t : Nat) (ht : t < 2) {s s' : Ld} (h : s' = s.sw t) : Hid (∀ w : World, Calls Tryz.prog 79 #[.int .u8 (t : Int), .agg (r2 s), .agg (r3 s)] w fun e w' => e = .returned (.tuple #[.agg (r2 s'), .agg (r3 s')]) ∧ Below w.heap.size w w') := hid fun w => by
  subst h
  rcases (by omega : t = 0 ∨ t = 1) with rfl | rfl
  · exact Swapped0_e s.x2 s.z2 s.x3 s.z3 w
  · exact Swapped1_e s.x2 s.z2 s.x3 s.z3 w
theorem StepL_e (u : FF) {s s' : Ld} (h : s' = s.core u) : Hid (∀ w : World, Calls Tryz.prog 80 #[.agg (r2 s), .agg (r3 s), .agg (eF u)] w fun e w' => e = .returned (.tuple #[.agg (r2 s'), .agg (r3 s')]) ∧ Below w.heap.size w w') := hid fun w => by
  subst h
  exact Step_e s.x2 s.z2 s.x3 s.z3 u w
theorem Pr_start (w : World) (U : Array Value) : Cl ((w.alloc (.cells U ET7)).alloc (.cells z4 ET7)) [(w.heap.size, U, ET7), (w.heap.size + 1, z4, ET7)] := ⟨blkA (blkN rfl U ET7) _, blkN (by simp) z4 ET7, trivial⟩
/-- At the label: the ladder's numbers. -/
def ProdAt (w : World) (u : FF) (k m g h b3 b4 : Nat) (wr : World) : Prop :=
  m ≤ 255 ∧ Cl wr [(g, r2 (lad u k (255 - m)), RTd), (h, r3 (lad u k (255 - m)), RTd), (b3, eF u, ET7), (b4, z4, ET7)] ∧ Below w.heap.size w wr ∧ w.heap.size ≤ g ∧ w.heap.size ≤ h ∧ w.heap.size ≤ b4 ∧ g ≠ h ∧ b3 ≠ g ∧ b3 ≠ h ∧ b4 ≠ g ∧ b4 ≠ h ∧ b3 ≠ b4
theorem sizeRR (x z x' z' : FF) : (rA x z).size = (rA x' z').size := rfl
theorem Cl.upd {w : World} {g h : Nat} {X Y X' Y' : Array Value} {t t' : TypeId} {L : List (Nat × Array Value × TypeId)} (hc : Cl w ((g, X, t) :: (h, Y, t') :: L)) (hg : ∀ p ∈ L, p.1 ≠ g) (hh : ∀ p ∈ L, p.1 ≠ h) (hne : g ≠ h) :
    Cl ((w.setRow g X').setRow h Y') ((g, X', t) :: (h, Y', t') :: L) :=
  ⟨(setRow_other _ _ _ _ hne).trans (setRow_heap _ _ _ _ _ _ hc.1), setRow_heap _ _ _ _ _ _ ((setRow_other _ _ _ _ (Ne.symm hne)).trans hc.2.1), (hc.2.2.row _ hg).row _ hh⟩
set_option maxRecDepth 100000 in
set_option maxHeartbeats 4000000 in
theorem Product_e (u : FF) (A : Option Addr) (ks : List UInt8) (c : Nat) (w : World) (hS : Sq w w.heap.size A c (bvs ks)) (hl : ks.length = 32) :
    Calls Tryz.prog 54 #[.slice A ks.length c, .agg (eF u)] w fun e w' => e = .returned (.agg (eF (ladOut u (leN ks)))) ∧ Below w.heap.size w w' := by
  obtain ⟨one, hone⟩ : ∃ x : FF, x = 1 := ⟨_, rfl⟩
  have K1 := numE 1 (r := one) (by omega) (by rw [hone]; decide +kernel)
  have HS := hid hS; have HL := hid hl
  obtain ⟨k, hk⟩ : ∃ k, k = leN ks := ⟨_, rfl⟩
  obtain ⟨OU, hOU⟩ : ∃ v, v = ladOut u k := ⟨_, rfl⟩
  rw [← hk, ← hOU]
  have HOU := hid hOU; have HK := hid hk; have HONE := hid hone
  have F0 := hid (Pr_start w (eF u))
  have HB0 : Hid (Below w.heap.size w ((w.alloc (.cells (eF u) ET7)).alloc (.cells z4 ET7))) := hid (((Below.refl _ _).alloc (Nat.le_refl _) _).alloc (by simp) _)
  clear hS hl hk hOU hone
  go_enter Tryz.func54, Tryz.ntmps54
  go_wp2_with fail
  generalize hw1 : ((w.alloc (.cells (eF u) ET7)).alloc (.cells z4 ET7)) = w1 at F0 HB0 ⊢
  obtain ⟨b4, hb4⟩ : ∃ b, b = w.heap.size + 1 := ⟨_, rfl⟩
  rw [← hb4] at F0 ⊢
  obtain ⟨b3, hb3⟩ : ∃ b, b = w.heap.size := ⟨_, rfl⟩
  have F0' : Hid (Cl w1 [(b3, eF u, ET7), (b4, z4, ET7)]) := by rw [hb3]; exact F0
  have HB34 : Hid (w.heap.size ≤ b4 ∧ b3 ≠ b4 ∧ b3 < w1.heap.size ∧ b4 < w1.heap.size) := hid ⟨by omega, by omega, block_lt F0'.out.1, block_lt F0'.out.2.1⟩
  rw [← hb3]
  clear hw1 hb3 hb4 F0
  refine wp_scope_at' 0 (fun a' w' => ∃ (m g h : Nat) (u8 u9 u10 u11 u12 u13 u14 u15 u16 u17 u18 u19 u20 u21 u22 u23 u24 u25 u26 u27 u28 u29 u30 u31 u32 u33 u34 u35 u36 u37 u38 u39 u40 u41 u42 u43 u44 u45 u46 u47 u48 u49 u50 u51 u52 u53 : Value), a' = { tmps := (.slice A ks.length c :: .agg (eF u) :: undef :: .pointer (some ⟨b3, 0, none⟩) :: .pointer (some ⟨b4, 0, none⟩) :: .pointer (some ⟨g, 0, none⟩) :: .pointer (some ⟨h, 0, none⟩) :: .int .i64 ((m : Nat) : Int) :: u8 :: u9 :: u10 :: u11 :: u12 :: u13 :: u14 :: u15 :: u16 :: u17 :: u18 :: u19 :: u20 :: u21 :: u22 :: u23 :: u24 :: u25 :: u26 :: u27 :: u28 :: u29 :: u30 :: u31 :: u32 :: u33 :: u34 :: u35 :: u36 :: u37 :: u38 :: u39 :: u40 :: u41 :: u42 :: u43 :: u44 :: u45 :: u46 :: u47 :: u48 :: u49 :: u50 :: u51 :: u52 :: u53 :: []).toArray, defers := [] } ∧ ProdAt w u k m g h b3 b4 w') (fun a' _ => (intOf (a'.tmps.getD 7 undef)).toNat) rfl ?_ ?_
  · intro Qj hQr hQp hJ
    go_wp2_with fail
    refine (K1.out _).mono ?_
    rintro e wN ⟨rfl, hbN⟩
    have hgN := blkN (w := wN) rfl z8 RTd
    have hbA := hbN.alloc hbN.size (.cells z8 RTd)
    go_wp2_with (first
      | (with_reducible refine wpList_build1 rfl RTd 0 (.tmp 9) rfl (.agg (eF one)) rfl _ (build_r1 one) ?_)
      | (with_reducible refine wpList_store_row rfl RTd (.tmp 5) (.tmp 10) rfl wN.heap.size (rA one 0) rfl rfl RTd z8 hgN (infoRA _ _) (sizeZR _ _) (oneRA _ _) ?_))
    have hp := hbN.size
    have F1 := hid ((F0'.out).new1 hbA hp (X := rA one 0) hgN)
    have HB1 : Hid (Below w.heap.size w ((wN.alloc (.cells z8 RTd)).setRow wN.heap.size (rA one 0))) := hid (belowRow (HB0.out.trans (hbA.mono HB0.out.size)) (Nat.le_trans HB0.out.size hp) _)
    have HG1 : Hid (w1.heap.size ≤ wN.heap.size) := hid hp
    generalize hw2 : ((wN.alloc (.cells z8 RTd)).setRow wN.heap.size (rA one 0)) = w2 at F1 HB1 ⊢
    generalize hg : wN.heap.size = g at F1 HG1 ⊢
    clear hw2 hg hgN hbA hbN hp wN
    (try simp only [Act.put, List.getElem_toArray, List.getElem_cons_succ, List.getElem_cons_zero, List.setIfInBounds_toArray, List.set_cons_zero, List.set_cons_succ])
    refine wp_region_grA 4 (by kernel_rfl) (by decide) ?_
    refine wpGrA_take (i := 0) (.agg (eF u)) rfl (by kernel_rfl) (by kernel_rfl) (fun c a w h => by have h2 := (hQp c _ w).mp h; exact (hQp c a w).mpr h2) (yieldsG_part rfl ET7 (.tmp 3) rfl b3 0 rfl ET7 (eF u) (eF u) (0, 0) _ F1.out.2.1 (eF_allD _) Tryz.underlying55 rfl (infoEF _)) ?_
    (try simp only [Act.put, List.getElem_toArray, List.getElem_cons_succ, List.getElem_cons_zero, List.setIfInBounds_toArray, List.set_cons_zero, List.set_cons_succ])
    refine wpGrA_take (i := 1) (.agg (eF one)) rfl (by kernel_rfl) (by kernel_rfl) (fun c a w h => by have h2 := (hQp c _ w).mp h; exact (hQp c a w).mpr h2) (yieldsG_call rfl (fun w' => by go_simp) (fun w' _ => K1.out w')) ?_
    (try simp only [Act.put, List.getElem_toArray, List.getElem_cons_succ, List.getElem_cons_zero, List.setIfInBounds_toArray, List.set_cons_zero, List.set_cons_succ])
    refine wpGrA_take (i := 2) (.agg (rA u one)) rfl (by kernel_rfl) (by kernel_rfl) (fun c a w h => by have h2 := (hQp c _ w).mp h; exact (hQp c a w).mpr h2) (yieldsG_build2 rfl RTd 0 1 (.tmp 11) (.tmp 12) rfl (.agg (eF u)) (.agg (eF one)) rfl rfl _ (build_r u one)) ?_
    (try simp only [Act.put, List.getElem_toArray, List.getElem_cons_succ, List.getElem_cons_zero, List.setIfInBounds_toArray, List.set_cons_zero, List.set_cons_succ])
    refine wpGrA_alloc (i := 3) rfl rfl rfl zeroR7 (by kernel_rfl) ?_
    intro h wx hp h1 hb
    (try simp only [Act.put, List.getElem_toArray, List.getElem_cons_succ, List.getElem_cons_zero, List.setIfInBounds_toArray, List.set_cons_zero, List.set_cons_succ])
    have F2 := hid ((F1.out).new1 hb hp (X := rA u one) h1)
    have HB2 : Hid (Below w.heap.size w (wx.setRow h (rA u one))) := hid (belowRow (HB1.out.trans (hb.mono HB1.out.size)) (Nat.le_trans HB1.out.size hp) _)
    have HH : Hid (g < h) := hid (Nat.lt_of_lt_of_le (block_lt F1.out.1) hp)
    refine wpList_store_row rfl RTd (.tmp 6) (.tmp 13) rfl h (rA u one) rfl rfl RTd z8 h1 (infoRA _ _) (sizeZR _ _) (oneRA _ _) ?_
    (try simp only [Act.put, List.getElem_toArray, List.getElem_cons_succ, List.getElem_cons_zero, List.setIfInBounds_toArray, List.set_cons_zero, List.set_cons_succ])
    generalize hw3 : (wx.setRow h (rA u one)) = w3 at F2 HB2 ⊢
    clear hw3 h1 hp hb wx F1 HB1
    go_wp2
    refine wp_label ?_
    rename_i K hK
    refine hK _ _ (hJ _ _ ⟨255, g, h, _, _, _, _, _, _, _, _, _, _, _, _, _, _, _, _, _, _, _, _, _, _, _, _, _, _, _, _, _, _, _, _, _, _, _, _, _, _, _, _, _, _, _, _, _, _, rfl, ?_⟩)
    have e0 : lad u k (255 - 255) = ⟨one, 0, u, one⟩ := by rw [HONE.out]; rfl
    rw [ProdAt, e0]
    have q1 := HB34.out
    have q2 := HG1.out
    have q3 := HH.out
    have q4 := HB0.out.size
    exact ⟨Nat.le_refl _, ⟨F2.out.2.1, F2.out.1, F2.out.2.2⟩, HB2.out, by omega, by omega, q1.1, by omega, by omega, by omega, by omega, by omega, q1.2.1⟩
  · rintro a' w' ⟨m, g, h, u8, u9, u10, u11, u12, u13, u14, u15, u16, u17, u18, u19, u20, u21, u22, u23, u24, u25, u26, u27, u28, u29, u30, u31, u32, u33, u34, u35, u36, u37, u38, u39, u40, u41, u42, u43, u44, u45, u46, u47, u48, u49, u50, u51, u52, u53, rfl, hP⟩
    clear K1 F0' HB0 HB34 HONE
    obtain ⟨hm, hF, hB, hg0, hh0, hb40, hgh, h3g, h3h, h4g, h4h, h34⟩ := hP
    have HB := hid hB; have HF := hid hF
    have HNE := hid (And.intro hg0 (And.intro hh0 (And.intro hb40 (And.intro hgh (And.intro h3g (And.intro h3h (And.intro h4g (And.intro h4h h34))))))))
    clear hB hF hg0 hh0 hb40 hgh h3g h3h h4g h4h h34
    rcases m with _ | m
    · obtain ⟨s, hs⟩ : ∃ s, s = lad u k (255 - 0) := ⟨_, rfl⟩
      rw [← hs] at HF
      have hv : OU = s.x2 * FI s.z2 := by rw [HOU.out, hs]; rfl
      obtain ⟨iv, hiv⟩ : ∃ v, v = FI s.z2 := ⟨_, rfl⟩
      rw [← hiv] at hv
      have KI := invE hiv
      have KM := mulE hv
      clear hs hiv hv HOU
      have H4 : w'.heap[b4]? = some (.cells z4 ET7 (0, 0)) := HF.out.2.2.2.1
      go_wp2_with fail
      refine wp_region_grA 6 (by kernel_rfl) (by decide) ?_
      refine wpGrA_take (i := 0) (.pointer (some ⟨g, 0, none⟩)) rfl (by kernel_rfl) (by kernel_rfl) (fun _ _ _ h => h) (yieldsG_val _ rfl (fun w' _ => by go_simp)) ?_
      (try simp only [Act.put, List.getElem_toArray, List.getElem_cons_succ, List.getElem_cons_zero, List.setIfInBounds_toArray, List.set_cons_zero, List.set_cons_succ])
      refine wpGrA_take (i := 1) (.agg (eF s.x2)) rfl (by kernel_rfl) (by kernel_rfl) (fun _ _ _ h => h) (yieldsG_part rfl ET7 (.tmp 16) rfl g 0 rfl RTd (r2 s) (eF s.x2) (0, 0) _ HF.out.1 (rA_lo _ _) Tryz.underlying55 rfl (infoEF _)) ?_
      (try simp only [Act.put, List.getElem_toArray, List.getElem_cons_succ, List.getElem_cons_zero, List.setIfInBounds_toArray, List.set_cons_zero, List.set_cons_succ])
      refine wpGrA_take (i := 2) (.pointer (some ⟨g, 4, none⟩)) rfl (by kernel_rfl) (by kernel_rfl) (fun _ _ _ h => h) (yieldsG_val _ rfl (fun w' _ => by go_simp)) ?_
      (try simp only [Act.put, List.getElem_toArray, List.getElem_cons_succ, List.getElem_cons_zero, List.setIfInBounds_toArray, List.set_cons_zero, List.set_cons_succ])
      refine wpGrA_take (i := 3) (.agg (eF s.z2)) rfl (by kernel_rfl) (by kernel_rfl) (fun _ _ _ h => h) (yieldsG_part rfl ET7 (.tmp 18) rfl g 4 rfl RTd (r2 s) (eF s.z2) (0, 0) _ HF.out.1 (rA_hi _ _) Tryz.underlying55 rfl (infoEF _)) ?_
      (try simp only [Act.put, List.getElem_toArray, List.getElem_cons_succ, List.getElem_cons_zero, List.setIfInBounds_toArray, List.set_cons_zero, List.set_cons_succ])
      refine wpGrA_take (i := 4) (.agg (eF iv)) rfl (by kernel_rfl) (by kernel_rfl) (fun _ _ _ h => h) (yieldsG_call rfl (fun w' => by go_simp) (fun w' _ => KI.out w')) ?_
      (try simp only [Act.put, List.getElem_toArray, List.getElem_cons_succ, List.getElem_cons_zero, List.setIfInBounds_toArray, List.set_cons_zero, List.set_cons_succ])
      refine wpGrA_take (i := 5) (.agg (eF OU)) rfl (by kernel_rfl) (by kernel_rfl) (fun _ _ _ h => h) (yieldsG_call rfl (fun w' => by go_simp) (fun w' _ => KM.out w')) ?_
      (try simp only [Act.put, List.getElem_toArray, List.getElem_cons_succ, List.getElem_cons_zero, List.setIfInBounds_toArray, List.set_cons_zero, List.set_cons_succ])
      refine wpGrA_end (by kernel_rfl) (fun wx hb => ?_)
      have H4' : wx.heap[b4]? = some (.cells z4 ET7 (0, 0)) := by rw [hb.block _ (block_lt H4)]; exact H4
      refine wpList_store_row rfl ET7 (.tmp 4) (.tmp 21) rfl b4 (eF OU) rfl rfl ET7 z4 H4' (infoEF _) (sizeZE _) (oneEF _) ?_
      (try simp only [Act.put, List.getElem_toArray, List.getElem_cons_succ, List.getElem_cons_zero, List.setIfInBounds_toArray, List.set_cons_zero, List.set_cons_succ])
      have J4 : (wx.setRow b4 (eF OU)).heap[b4]? = some (.cells (eF OU) ET7 (0, 0)) := setRow_heap _ _ _ _ _ _ H4'
      have HBZ : Below w.heap.size w (wx.setRow b4 (eF OU)) := belowRow (HB.out.trans (hb.mono HB.out.size)) HNE.out.2.2.1 _
      generalize hw9 : wx.setRow b4 (eF OU) = w9 at J4 HBZ ⊢
      clear hw9 H4 H4' hb
      go_wp2_with fail
      simp only [Exit.jump]
      exact bodyPost_ret (v := .agg (eF OU)) (results_cell_row rfl _ _ b4 ET7 _ (0, 0) _ rfl J4 Tryz.underlying55 rfl (infoEF _)) rfl ⟨rfl, HBZ⟩
    · have hm254 : m ≤ 254 := by omega
      have hj : m / 8 < ks.length := by rw [HL.out]; omega
      have hbit := leN_bit ks m hj
      rw [← HK.out] at hbit
      obtain ⟨y, hy⟩ : ∃ y, y = ks[m / 8] := ⟨_, rfl⟩
      rw [← hy] at hbit
      obtain ⟨q, hqq⟩ : ∃ q, q = m / 8 := ⟨_, rfl⟩
      obtain ⟨r, hr⟩ : ∃ r, r = m % 8 := ⟨_, rfl⟩
      have hm0 : (0 : Int) ≤ (m : Int) := by omega
      have hq1 : ((m : Int)).tdiv 8 = (q : Int) := by rw [Int.tdiv_eq_ediv_of_nonneg hm0]; omega
      have hq2 : (m : Int) / 8 = (q : Int) := by omega
      have hr1 : ((m : Int)).tmod 8 = (r : Int) := by rw [Int.tmod_eq_emod_of_nonneg hm0]; omega
      have hr2 : (m : Int) % 8 = (r : Int) := by omega
      have hqw : IntKind.i64.wrap (q : Int) = (q : Int) := IntWalk.i64_in _ (by omega)
      have hrw : IntKind.i64.wrap (r : Int) = (r : Int) := IntWalk.i64_in _ (by omega)
      have hmw : IntKind.i64.wrap (((m + 1 : Nat) : Int) - 1) = (m : Int) := (IntWalk.i64_in _ (by omega)).trans (by omega)
      have hm1 : ((m + 1 : Nat) : Int) - 1 = (m : Int) := by omega
      have hne : (((m + 1 : Nat) : Int) == 0) = false := by rw [beq_eq_false_iff_ne]; omega
      have hqx : (q : Int) < (ks.length : Int) := by omega
      have hq0 : (0 : Int) ≤ (q : Int) := by omega
      have hr0 : (0 : Int) ≤ (r : Int) := by omega
      have hr8 : (r : Int) < 64 := by omega
      obtain ⟨b, o, rfl, hbl, hcell⟩ := ((HS.out.below HB.out).lie).byte hj
      rw [← hy, ← hqq] at hcell
      rw [← hr] at hbit
      obtain ⟨t, ht⟩ : ∃ t, t = y.toNat / 2 ^ r % 2 := ⟨_, rfl⟩
      have hand : bits .and .u8 ((y.toNat : Int) / 2 ^ r) 1 = (t : Int) := by
        have hyl := y.toNat_lt
        have h1 := u8_and_nat (y.toNat / 2 ^ r) 1 (Nat.lt_of_le_of_lt (Nat.div_le_self _ _) hyl) (by omega)
        rw [Nat.and_one_is_mod, ← ht] at h1
        rw [← h1]
        congr 1
      have ht2 : t < 2 := by omega
      rw [← ht] at hbit
      obtain ⟨s, hs⟩ : ∃ s, s = lad u k (255 - (m + 1)) := ⟨_, rfl⟩
      have hnew : lad u k (255 - m) = ((s.sw t).core u).sw t := by
        rw [show 255 - m = 255 - (m + 1) + 1 by omega, hs, ← Ld.step_sw u t ht2]
        show (lad u k (255 - (m + 1))).step u (k / 2 ^ (254 - (255 - (m + 1))) % 2 == 1) = _
        rw [show 254 - (255 - (m + 1)) = m by omega, hbit]
      rw [← hs] at HF
      obtain ⟨s1, hs1⟩ : ∃ s1, s1 = s.sw t := ⟨_, rfl⟩
      obtain ⟨s2, hs2⟩ : ∃ s2, s2 = s1.core u := ⟨_, rfl⟩
      obtain ⟨s3, hs3⟩ : ∃ s3, s3 = s2.sw t := ⟨_, rfl⟩
      rw [← hs1, ← hs2, ← hs3] at hnew
      have KA := Swap_e t ht2 hs1
      have KB := StepL_e u hs2
      have KC := Swap_e t ht2 hs3
      have HNEW := hid hnew
      have G0 : w'.heap[g]? = some (.cells (r2 s) RTd (0, 0)) := HF.out.1
      have H0 : w'.heap[h]? = some (.cells (r3 s) RTd (0, 0)) := HF.out.2.1
      clear hs hs1 hs2 hs3 hnew hbit hy hqq hr ht hbl HOU hj
      go_wp2_with (first
        | (with_reducible refine wpList_load_row rfl RTd (.tmp 5) rfl g rfl RTd (r2 s) (0, 0) _ G0 Tryz.underlying87 rfl (infoRA _ _) ?_)
        | (with_reducible refine wpList_load_row rfl RTd (.tmp 6) rfl h rfl RTd (r3 s) (0, 0) _ H0 Tryz.underlying87 rfl (infoRA _ _) ?_))
      clear hmw hm1 hne hqx hq0 hr0 hr8 hand hcell hq1 hq2 hr1 hr2 hqw hrw hm0
      refine (KA.out _).mono ?_
      rintro e wc0 ⟨rfl, hb⟩
      have FC := (HF.out).on hb
      have G1 : wc0.heap[g]? = some (.cells (r2 s) RTd (0, 0)) := FC.1
      have H1 : (wc0.setRow g (r2 s1)).heap[h]? = some (.cells (r3 s) RTd (0, 0)) := (setRow_other _ _ _ _ (Ne.symm HNE.out.2.2.2.1)).trans FC.2.1
      have F0 : Hid (Cl ((wc0.setRow g (r2 s1)).setRow h (r3 s1)) [(g, r2 s1, RTd), (h, r3 s1, RTd), (b3, eF u, ET7), (b4, z4, ET7)]) := hid (FC.upd (by
        intro p hp; simp only [List.mem_cons, List.not_mem_nil, or_false] at hp; rcases hp with rfl | rfl; exact HNE.out.2.2.2.2.1; exact HNE.out.2.2.2.2.2.2.1) (by
        intro p hp; simp only [List.mem_cons, List.not_mem_nil, or_false] at hp; rcases hp with rfl | rfl; exact HNE.out.2.2.2.2.2.1; exact HNE.out.2.2.2.2.2.2.2.1) HNE.out.2.2.2.1)
      have B0 : Hid (Below w.heap.size w ((wc0.setRow g (r2 s1)).setRow h (r3 s1))) := hid (belowRow (belowRow (HB.out.trans (hb.mono HB.out.size)) HNE.out.1 _) HNE.out.2.1 _)
      have G2 : ((wc0.setRow g (r2 s1)).setRow h (r3 s1)).heap[g]? = some (.cells (r2 s1) RTd (0, 0)) := F0.out.1
      have H2 : ((wc0.setRow g (r2 s1)).setRow h (r3 s1)).heap[h]? = some (.cells (r3 s1) RTd (0, 0)) := F0.out.2.1
      have U2 : ((wc0.setRow g (r2 s1)).setRow h (r3 s1)).heap[b3]? = some (.cells (eF u) ET7 (0, 0)) := F0.out.2.2.1
      clear FC hb G0 H0  
      go_wp2_with (first
        | (with_reducible refine wpList_store_row rfl RTd (.tmp 5) (.tmp 38) rfl g (r2 s1) rfl rfl RTd (r2 s) G1 (infoRA _ _) (sizeRR _ _ _ _) (oneRA _ _) ?_)
        | (with_reducible refine wpList_store_row rfl RTd (.tmp 6) (.tmp 39) rfl h (r3 s1) rfl rfl RTd (r3 s) H1 (infoRA _ _) (sizeRR _ _ _ _) (oneRA _ _) ?_)
        | (with_reducible refine wpList_load_row rfl RTd (.tmp 5) rfl g rfl RTd (r2 s1) (0, 0) _ G2 Tryz.underlying87 rfl (infoRA _ _) ?_)
        | (with_reducible refine wpList_load_row rfl RTd (.tmp 6) rfl h rfl RTd (r3 s1) (0, 0) _ H2 Tryz.underlying87 rfl (infoRA _ _) ?_)
        | (with_reducible refine wpList_load_row rfl ET7 (.tmp 3) rfl b3 rfl ET7 (eF u) (0, 0) _ U2 Tryz.underlying55 rfl (infoEF _) ?_))
      clear G1 H1 G2 H2 U2
      refine (KB.out _).mono ?_
      rintro e wc1 ⟨rfl, hb⟩
      have FC := (F0.out).on hb
      have G1 : wc1.heap[g]? = some (.cells (r2 s1) RTd (0, 0)) := FC.1
      have H1 : (wc1.setRow g (r2 s2)).heap[h]? = some (.cells (r3 s1) RTd (0, 0)) := (setRow_other _ _ _ _ (Ne.symm HNE.out.2.2.2.1)).trans FC.2.1
      have F1 : Hid (Cl ((wc1.setRow g (r2 s2)).setRow h (r3 s2)) [(g, r2 s2, RTd), (h, r3 s2, RTd), (b3, eF u, ET7), (b4, z4, ET7)]) := hid (FC.upd (by
        intro p hp; simp only [List.mem_cons, List.not_mem_nil, or_false] at hp; rcases hp with rfl | rfl; exact HNE.out.2.2.2.2.1; exact HNE.out.2.2.2.2.2.2.1) (by
        intro p hp; simp only [List.mem_cons, List.not_mem_nil, or_false] at hp; rcases hp with rfl | rfl; exact HNE.out.2.2.2.2.2.1; exact HNE.out.2.2.2.2.2.2.2.1) HNE.out.2.2.2.1)
      have B1 : Hid (Below w.heap.size w ((wc1.setRow g (r2 s2)).setRow h (r3 s2))) := hid (belowRow (belowRow (B0.out.trans (hb.mono B0.out.size)) HNE.out.1 _) HNE.out.2.1 _)
      have G2 : ((wc1.setRow g (r2 s2)).setRow h (r3 s2)).heap[g]? = some (.cells (r2 s2) RTd (0, 0)) := F1.out.1
      have H2 : ((wc1.setRow g (r2 s2)).setRow h (r3 s2)).heap[h]? = some (.cells (r3 s2) RTd (0, 0)) := F1.out.2.1
      have U2 : ((wc1.setRow g (r2 s2)).setRow h (r3 s2)).heap[b3]? = some (.cells (eF u) ET7 (0, 0)) := F1.out.2.2.1
      clear FC hb  F0 B0
      go_wp2_with (first
        | (with_reducible refine wpList_store_row rfl RTd (.tmp 5) (.tmp 45) rfl g (r2 s2) rfl rfl RTd (r2 s1) G1 (infoRA _ _) (sizeRR _ _ _ _) (oneRA _ _) ?_)
        | (with_reducible refine wpList_store_row rfl RTd (.tmp 6) (.tmp 46) rfl h (r3 s2) rfl rfl RTd (r3 s1) H1 (infoRA _ _) (sizeRR _ _ _ _) (oneRA _ _) ?_)
        | (with_reducible refine wpList_load_row rfl RTd (.tmp 5) rfl g rfl RTd (r2 s2) (0, 0) _ G2 Tryz.underlying87 rfl (infoRA _ _) ?_)
        | (with_reducible refine wpList_load_row rfl RTd (.tmp 6) rfl h rfl RTd (r3 s2) (0, 0) _ H2 Tryz.underlying87 rfl (infoRA _ _) ?_)
        | (with_reducible refine wpList_load_row rfl ET7 (.tmp 3) rfl b3 rfl ET7 (eF u) (0, 0) _ U2 Tryz.underlying55 rfl (infoEF _) ?_))
      clear G1 H1 G2 H2 U2
      refine (KC.out _).mono ?_
      rintro e wc2 ⟨rfl, hb⟩
      have FC := (F1.out).on hb
      have G1 : wc2.heap[g]? = some (.cells (r2 s2) RTd (0, 0)) := FC.1
      have H1 : (wc2.setRow g (r2 s3)).heap[h]? = some (.cells (r3 s2) RTd (0, 0)) := (setRow_other _ _ _ _ (Ne.symm HNE.out.2.2.2.1)).trans FC.2.1
      have F2 : Hid (Cl ((wc2.setRow g (r2 s3)).setRow h (r3 s3)) [(g, r2 s3, RTd), (h, r3 s3, RTd), (b3, eF u, ET7), (b4, z4, ET7)]) := hid (FC.upd (by
        intro p hp; simp only [List.mem_cons, List.not_mem_nil, or_false] at hp; rcases hp with rfl | rfl; exact HNE.out.2.2.2.2.1; exact HNE.out.2.2.2.2.2.2.1) (by
        intro p hp; simp only [List.mem_cons, List.not_mem_nil, or_false] at hp; rcases hp with rfl | rfl; exact HNE.out.2.2.2.2.2.1; exact HNE.out.2.2.2.2.2.2.2.1) HNE.out.2.2.2.1)
      have B2 : Hid (Below w.heap.size w ((wc2.setRow g (r2 s3)).setRow h (r3 s3))) := hid (belowRow (belowRow (B1.out.trans (hb.mono B1.out.size)) HNE.out.1 _) HNE.out.2.1 _)
      have G2 : ((wc2.setRow g (r2 s3)).setRow h (r3 s3)).heap[g]? = some (.cells (r2 s3) RTd (0, 0)) := F2.out.1
      have H2 : ((wc2.setRow g (r2 s3)).setRow h (r3 s3)).heap[h]? = some (.cells (r3 s3) RTd (0, 0)) := F2.out.2.1
      have U2 : ((wc2.setRow g (r2 s3)).setRow h (r3 s3)).heap[b3]? = some (.cells (eF u) ET7 (0, 0)) := F2.out.2.2.1
      clear FC hb  F1 B1
      go_wp2_with (first
        | (with_reducible refine wpList_store_row rfl RTd (.tmp 5) (.tmp 52) rfl g (r2 s3) rfl rfl RTd (r2 s2) G1 (infoRA _ _) (sizeRR _ _ _ _) (oneRA _ _) ?_)
        | (with_reducible refine wpList_store_row rfl RTd (.tmp 6) (.tmp 53) rfl h (r3 s3) rfl rfl RTd (r3 s2) H1 (infoRA _ _) (sizeRR _ _ _ _) (oneRA _ _) ?_)
        | (with_reducible refine wpList_load_row rfl RTd (.tmp 5) rfl g rfl RTd (r2 s3) (0, 0) _ G2 Tryz.underlying87 rfl (infoRA _ _) ?_)
        | (with_reducible refine wpList_load_row rfl RTd (.tmp 6) rfl h rfl RTd (r3 s3) (0, 0) _ H2 Tryz.underlying87 rfl (infoRA _ _) ?_)
        | (with_reducible refine wpList_load_row rfl ET7 (.tmp 3) rfl b3 rfl ET7 (eF u) (0, 0) _ U2 Tryz.underlying55 rfl (infoEF _) ?_))
      clear G1 H1 G2 H2 U2
      go_step3
      refine ⟨rfl, ⟨m, g, h, _, _, _, _, _, _, _, _, _, _, _, _, _, _, _, _, _, _, _, _, _, _, _, _, _, _, _, _, _, _, _, _, _, _, _, _, _, _, _, _, _, _, _, _, _, _, rfl, ?_⟩, by show (intOf (.int .i64 ((m : Nat) : Int))).toNat < (intOf (.int .i64 ((m + 1 : Nat) : Int))).toNat; simp [intOf]⟩
      rw [ProdAt, HNEW.out]
      exact ⟨by omega, F2.out, B2.out, HNE.out⟩
end
end Go.Proofs.YtpkmidaflnbobaaGreatDoor
end
section
namespace Go.Proofs.YtpkmidaflnbobaaGreatDoor
section
open Go.RowKit
set_option linter.unusedVariables false
set_option linter.unusedSimpArgs false
/-- Zeros, made. -/
def zR : Array Value := (bvs z32).toArray
theorem mk32 (W : World) : (Instr.makeSlice 22 (.int .i64 32) (.int .i64 32)).run Tryz.prog W = .ok (.slice (some ⟨W.heap.size, 0, none⟩) 32 32) (W.alloc (.cells zR 5)) := by
  have h := run_make_row' (P := Tryz.prog) 22 5 (.int .u8 0) 1 Tryz.underlying22 infoU8 rfl .i64 .i64 32 (by omega) (by omega) W
  have hz : madeCells #[Value.int .u8 0] 32 = zR := by
    have e := toList_madeCells_one (Value.int .u8 0) 32
    refine Array.toList_inj.1 ?_
    rw [e]
    rfl
  rw [hz] at h
  exact h
theorem pad32_take (xs : List UInt8) : pad32 xs = xs.take 32 ++ z32.drop (xs.take 32).length := by
  unfold pad32 z32
  rw [List.take_append, List.drop_replicate, List.length_take]
  congr 1
  rw [List.take_replicate]
  congr 1
  omega
theorem splice_z32 (xs : List UInt8) : splice (bvs z32) 0 (bvs (xs.take 32)) = bvs (pad32 xs) := by
  rw [pad32_take]
  simp [splice, bvs, List.map_drop]
theorem and_248 (y : UInt8) : y.toNat &&& 248 = y.toNat / 8 * 8 := by
  have : ∀ z : Fin 256, (z.val &&& 248) = z.val / 8 * 8 := by decide +kernel
  exact this ⟨y.toNat, y.toNat_lt⟩
theorem and_127 (y : UInt8) : y.toNat &&& 127 = y.toNat % 128 := by
  have : ∀ z : Fin 256, (z.val &&& 127) = z.val % 128 := by decide +kernel
  exact this ⟨y.toNat, y.toNat_lt⟩
theorem or_64 (y : UInt8) : (y.toNat % 128) ||| 64 = y.toNat % 64 + 64 := by
  have : ∀ z : Fin 256, ((z.val % 128) ||| 64) = z.val % 64 + 64 := by decide +kernel
  exact this ⟨y.toNat, y.toNat_lt⟩
theorem sizeU8c : (Tryz.prog.info? 5).map (·.size) = some 1 := by kernel_rfl
set_option maxHeartbeats 1000000 in
theorem DhClamp_e (A : Option Addr) (key : List UInt8) (c : Nat) (w : World) (hS : Sq w w.heap.size A c (bvs key)) (hl : key.length ≤ 1000) :
    Calls Tryz.prog 55 #[.slice A key.length c] w fun e w' => ∃ A' c', e = .returned (.slice A' 32 c') ∧ Sq w' w'.heap.size A' c' (bvs (clampB key)) ∧ Below w.heap.size w w' := by
  have HM := mk32
  have HB0 : Hid (Below w.heap.size w (w.alloc (.cells zR 5))) := hid ((Below.refl _ _).alloc (Nat.le_refl _) _)
  have hL := ((hS.on6 HB0.out).lie)
  have hrow : (w.alloc (.cells zR 5)).heap[w.heap.size]? = some (.cells (bvs z32).toArray 5 (0, 0)) := heap_alloc_new w _
  have HL := hid hL
  have HROW := hid hrow
  obtain ⟨kv, hkv⟩ : ∃ kv, kv = bvs (key.take 32) := ⟨_, rfl⟩
  have hkl : kv.length = Nat.min key.length 32 := by rw [hkv, bvs_length, List.length_take]; exact Nat.min_comm _ _
  have HKV := hid hkv; have HKL := hid hkl
  clear hL hrow hS hkv hkl
  go_enter Tryz.func55, Tryz.ntmps55
  go_wp2_with (first
      | fail
      | (with_reducible refine wpList_copy_grown rfl (.tmp 5) (.tmp 6) _ _ rfl 5 Tryz.underlying22 sizeU8c _ _ _ _ _ _ rfl rfl w.heap.size 0 (bvs z32) 5 HROW.out kv ?e2 ?e3 ?e4 ?e5 (w.alloc (.cells zR 5)) (World.grownBy.refl _ _) ?_))
  case e2 => exact HKL.out
  case e3 =>
    intro hp
    obtain ⟨ad, rfl, hc⟩ := HL.out.src (by rw [bvs_length]; rw [HKL.out] at hp; have : key.length.min 32 ≤ key.length := Nat.min_le_left _ _; omega)
    refine ⟨ad, rfl, fun j v hv => hc j v ?_⟩
    rw [HKV.out, bvs, List.map_take, List.getElem?_take] at hv
    split at hv
    · exact hv
    · cases hv
  case e4 => rw [HKL.out, bvs_length, z32_length]; have : key.length.min 32 ≤ 32 := Nat.min_le_right _ _; omega
  case e5 => rw [HKV.out]; exact bvs_one _
  intro w2 HW hg2
  have hw2 := HW.out
  rw [HKV.out, splice_z32] at hw2
  have hb2 : Below w.heap.size w w2 := HB0.out.grown hg2 (by simp) (fun q h => by injection h with h; omega)
  obtain ⟨ps, hps⟩ : ∃ ps, ps = pad32 key := ⟨_, rfl⟩
  have hpl : ps.length = 32 := by rw [hps]; exact pad32_length key
  rw [← hps] at hw2
  obtain ⟨y0, hy0⟩ : ∃ y, y = ps[0] := ⟨_, rfl⟩
  obtain ⟨y31, hy31⟩ : ∃ y, y = ps[31] := ⟨_, rfl⟩
  obtain ⟨z0, hz0⟩ : ∃ z, z = UInt8.ofNat (y0.toNat / 8 * 8) := ⟨_, rfl⟩
  obtain ⟨z31, hz31⟩ : ∃ z, z = UInt8.ofNat (y31.toNat % 64 + 64) := ⟨_, rfl⟩
  have hl0 := y0.toNat_lt
  have hl31 := y31.toNat_lt
  have hv0 : z0.toNat = y0.toNat / 8 * 8 := by rw [hz0]; simp [UInt8.toNat_ofNat']; omega
  have hv31 : z31.toNat = y31.toNat % 64 + 64 := by rw [hz31]; simp [UInt8.toNat_ofNat']; omega
  have hcl : clampB key = (ps.set 0 z0).set 31 z31 := by
    unfold clampB
    rw [← hps, hz0, hz31, hy0, hy31, List.getD_eq_getElem?_getD, List.getD_eq_getElem?_getD, List.getElem?_eq_getElem (by omega : 0 < ps.length), List.getElem?_eq_getElem (by omega : 31 < ps.length)]
    simp only [Option.getD_some]
  obtain ⟨g, hg⟩ : ∃ g, g = w.heap.size := ⟨_, rfl⟩
  rw [← hg] at hw2
  have hcp : ∀ (j : Nat) (v : Value), (bvs ps)[j]? = some v → (bvs ps).toArray[j]? = some v := fun j v h => by simpa using h
  have hc0 : w2.cell? ⟨g, 0, none⟩ = some (.int .u8 (y0.toNat : Int)) := cell_of hw2 0 _ (hcp 0 _ (by rw [hy0]; exact bvs_at ps 0 (by omega)))
  have hf0 : w2.frozen? ⟨g, 0, none⟩ = false := frozen_of_row _ _ _ _ _ hw2
  have hset0 := block_set hw2 0 (.int .u8 (z0.toNat : Int))
  have hcs := set_cells hcp 0 (by omega) z0
  have hcs2 := set_cells hcs 31 (by rw [List.length_set]; omega) z31
  have h31 : (ps.set 0 z0)[31]'(by rw [List.length_set]; omega) = y31 := by rw [hy31]; exact List.getElem_set_ne (by omega) _
  have hc31 : (w2.setCell ⟨g, 0, none⟩ (.int .u8 (z0.toNat : Int))).cell? ⟨g, 31, none⟩ = some (.int .u8 (y31.toNat : Int)) := cell_of hset0 31 _ (hcs 31 _ (by rw [bvs_at _ 31 (by rw [List.length_set]; omega), h31]))
  have hf31 : (w2.setCell ⟨g, 0, none⟩ (.int .u8 (z0.toNat : Int))).frozen? ⟨g, 31, none⟩ = false := frozen_of_row _ _ _ _ _ hset0
  have hset1 := block_set hset0 31 (.int .u8 (z31.toNat : Int))
  have hsq : Sq ((w2.setCell ⟨g, 0, none⟩ (.int .u8 (z0.toNat : Int))).setCell ⟨g, 31, none⟩ (.int .u8 (z31.toNat : Int))) ((w2.setCell ⟨g, 0, none⟩ (.int .u8 (z0.toNat : Int))).setCell ⟨g, 31, none⟩ (.int .u8 (z31.toNat : Int))).heap.size (some ⟨g, 0, none⟩) 32 (bvs (clampB key)) := by
    refine row_sq hset1 (fun j v hj => hcs2 j v (by rw [← hcl]; exact hj)) (by rw [clampB_length]; omega) (by omega)
  have hb3 : Below w.heap.size w ((w2.setCell ⟨g, 0, none⟩ (.int .u8 (z0.toNat : Int))).setCell ⟨g, 31, none⟩ (.int .u8 (z31.toNat : Int))) := (hb2.setCell (by simp; omega) _).setCell (by simp; omega) _
  have ha0 : bits .and .u8 (y0.toNat : Int) 248 = (z0.toNat : Int) := by
    have h := u8_and_nat y0.toNat 248 hl0 (by omega)
    rw [and_248, ← hv0] at h
    exact h
  obtain ⟨p, hp⟩ : ∃ p, p = y31.toNat % 128 := ⟨_, rfl⟩
  have ha31 : bits .and .u8 (y31.toNat : Int) 127 = (p : Int) := by
    have h := u8_and_nat y31.toNat 127 hl31 (by omega)
    rw [and_127, ← hp] at h
    exact h
  have ho31 : bits .or .u8 (p : Int) 64 = (z31.toNat : Int) := by
    have h := u8_or_nat p 64 (by omega) (by omega)
    rw [hp, or_64, ← hv31, ← hp] at h
    exact h
  have HSQ := hid hsq; have HB3 := hid hb3; have HG := hid hg
  rw [← hg]
  clear hsq hb3 hb2 hv0 hv31 hl0 hl31 hz0 hz31 hy0 hy31 hset0 hset1 hcs hcs2 h31 hcp hw2 HW hg2 hp hcl hps hpl hg HL HROW HM HKV HKL HB0
  go_wp2_with fail
  go_ret
  exact ⟨_, _, rfl, HSQ.out, HB3.out⟩
end
section
open Go.RowKit
set_option linter.unusedVariables false
set_option linter.unusedSimpArgs false
set_option linter.unusedSectionVars false
/-- Bytes, in memory of their own, and no error. -/
def DhOk (w : World) (v : List UInt8) (e : Ending) (w' : World) : Prop := ∃ A c, e = .returned (.tuple #[.slice A 32 c, .int .u8 0]) ∧ Sq w' w'.heap.size A c (bvs v) ∧ (∀ g, g < w.heap.size → NotIn A (bvs v) g) ∧ Below w.heap.size w w'
/-- An error and no bytes. -/
def DhErr (w : World) (k : Int) (e : Ending) (w' : World) : Prop := ∃ A c, e = .returned (.tuple #[.slice A 0 c, .int .u8 k]) ∧ Below w.heap.size w w'
theorem own32 {w w' : World} {B : Nat} {v : Value} {xs : List UInt8} (h : OwnB w' B v xs) (hl : xs.length = 32) (hB : w.heap.size ≤ B) :
    ∃ A c, v = .slice A 32 c ∧ Sq w' w'.heap.size A c (bvs xs) ∧ ∀ g, g < w.heap.size → NotIn A (bvs xs) g := by
  obtain ⟨A, c, hv, -⟩ := own_sl h
  rw [hl] at hv
  have h' : w'.ownsRow B 5 1 (.slice A 32 c) 32 (bvs xs) := by unfold OwnB at h; rw [hl] at h; rw [← hv]; exact h
  obtain ⟨g, cur, rfl, hg, hcur, hcells, hnc, hcm⟩ := own_parts h' (by omega)
  refine ⟨_, _, hv, row_sq hcur hcells (by omega) hcm, fun k hk hx b o sp e => ?_⟩
  simp only [Option.some.injEq, Addr.mk.injEq] at e
  omega
theorem len_ne {n : Nat} (h : n ≠ 32) : decide ((n : Int) = 32) = false := by rw [decide_eq_false_iff_not]; omega
theorem ofN_dhV (key pt : List UInt8) : ofN (dhV key pt) = (ladOut (uF pt) (leN (clampB key))).val := by
  show (uF (dhV key pt)).val = _
  rw [uF_dhV]
theorem ofN_ne {key pt : List UInt8} (hz : dhV key pt ≠ z32) : ofN (dhV key pt) ≠ 0 := fun h => hz (by
  rw [ofN_dhV] at h
  unfold dhV
  rw [h, leB_zero])
theorem ofN_zero {key pt : List UInt8} (hz : dhV key pt = z32) : ofN (dhV key pt) = 0 := by
  rw [hz]
  show (uF z32).val = 0
  rw [uF_zero]
  rfl
theorem DhOk.on {w w1 w' : World} {v : List UInt8} {e : Ending} (hb : Below w.heap.size w w1) (h : DhOk w1 v e w') : DhOk w v e w' := by
  obtain ⟨A, c, he, hs, hn, hb2⟩ := h
  exact ⟨A, c, he, hs, fun g hg => hn g (Nat.lt_of_lt_of_le hg hb.size), hb.trans (hb2.mono hb.size)⟩
theorem nine_bytes : leB 32 ((9 : FF)).val = b32 9 := by decide +kernel
theorem DhMul_arg0 (A : Option Addr) (key : List UInt8) (c : Nat) (A' : Option Addr) (pt : List UInt8) (c' : Nat) (w : World) (h : key.length ≠ 32) : Calls Tryz.prog 31 #[.slice A key.length c, .slice A' pt.length c'] w (DhErr w 1) := by
  obtain ⟨n, hn⟩ : ∃ n, n = key.length := ⟨_, rfl⟩
  rw [← hn] at h ⊢
  have hd := len_ne h
  have hi : ¬ (n : Int) = 32 := by omega
  clear hn h
  go_enter Tryz.func31, Tryz.ntmps31
  go_wp2_with fail
  go_ret2
  exact ⟨_, _, rfl, Below.refl _ _⟩
section
variable (A : Option Addr) (key : List UInt8) (c : Nat) (A' : Option Addr) (pt : List UInt8) (c' : Nat) (w : World) (hS : Sq w w.heap.size A c (bvs key)) (hS' : Sq w w.heap.size A' c' (bvs pt)) (hl : key.length ≤ 1000) (hl' : pt.length ≤ 1000)
include hS hS' hl hl'
set_option maxHeartbeats 1000000 in
theorem DhMul_e (h : key.length = 32) (h' : pt.length = 32) : Calls Tryz.prog 31 #[.slice A 32 c, .slice A' 32 c'] w (DhOk w (dhV key pt)) := by
  have CL := fun W hW => DhClamp_e A key c W hW hl
  rw [h] at CL
  have CO := fun W hW => Of_e A' pt c' W hW
  rw [h'] at CO
  have CP : ∀ W A1 c1, Sq W W.heap.size A1 c1 (bvs (clampB key)) → Calls Tryz.prog 54 #[.slice A1 32 c1, .agg (eA (ofN pt))] W fun e w' => e = .returned (.agg (eF (ladOut (uF pt) (leN (clampB key))))) ∧ Below W.heap.size W w' := fun W A1 c1 hs => by
    have := Product_e (uF pt) A1 (clampB key) c1 W hs (clampB_length key)
    rwa [clampB_length] at this
  have CB := bytesE (ladOut (uF pt) (leN (clampB key)))
  have hV : dhV key pt = leB 32 (ladOut (uF pt) (leN (clampB key))).val := rfl
  obtain ⟨v, hv⟩ : ∃ v, v = ladOut (uF pt) (leN (clampB key)) := ⟨_, rfl⟩
  rw [← hv] at CP CB hV
  rw [hV]
  have HCL := hid CL; have HCO := hid CO; have HCP := hid CP; have HS := hid hS; have HS' := hid hS'
  clear CL CO CP hv hV hS hS' h h' hl hl'
  go_enter Tryz.func31, Tryz.ntmps31
  go_wp2_with fail
  refine (HCL.out _ HS.out).mono ?_
  rintro e w1 ⟨A1, c1, rfl, hS1, hb1⟩
  have HS1 := hid hS1; have HB1 := hid hb1; have HS2 := hid (HS'.out.on6 hb1)
  clear hS1 hb1
  go_wp2_with fail
  refine (HCO.out _ HS2.out).mono ?_
  rintro e w2 ⟨rfl, hb2⟩
  have HS3 := hid (HS1.out.on6 hb2); have HB2 := hid (HB1.out.trans (hb2.mono HB1.out.size))
  clear hb2 HB1
  go_wp2_with fail
  refine (HCP.out _ _ _ HS3.out).mono ?_
  rintro e w3 ⟨rfl, hb3⟩
  have HB3 := hid (HB2.out.trans (hb3.mono HB2.out.size))
  clear hb3
  go_wp2_with fail
  refine (CB.out _).mono ?_
  rintro e w4 ⟨x, rfl, ho, hb4⟩
  have HB4 := hid (HB3.out.trans (hb4.mono HB3.out.size))
  obtain ⟨A4, c4, rfl, hS4, hn4⟩ := own32 (w := w) ho (leB_length 32 _) HB3.out.size
  have HS4 := hid hS4; have HN4 := hid hn4
  clear ho hb4 hS4 hn4 HB3
  go_wp2_with fail
  go_ret2
  exact ⟨_, _, rfl, HS4.out, HN4.out, HB4.out⟩
theorem DhMul_arg (h : key.length ≠ 32) : Calls Tryz.prog 31 #[.slice A key.length c, .slice A' pt.length c'] w (DhErr w 1) := DhMul_arg0 A key c A' pt c' w h
theorem DhMul_form (h : key.length = 32) (h' : pt.length ≠ 32) : Calls Tryz.prog 31 #[.slice A 32 c, .slice A' pt.length c'] w (DhErr w 3) := by
  obtain ⟨n, hn⟩ : ∃ n, n = pt.length := ⟨_, rfl⟩
  rw [← hn] at h' ⊢
  have hd := len_ne h'
  have hi : ¬ (n : Int) = 32 := by omega
  clear hS hS' hn h'
  go_enter Tryz.func31, Tryz.ntmps31
  go_wp2_with fail
  go_ret2
  exact ⟨_, _, rfl, Below.refl _ _⟩
set_option maxHeartbeats 1000000 in
theorem DhShared_e (h : key.length = 32) (h' : pt.length = 32) (hz : dhV key pt ≠ z32) : Calls Tryz.prog 15 #[.slice A 32 c, .slice A' 32 c'] w (DhOk w (dhV key pt)) := by
  have CM := DhMul_e A key c A' pt c' w hS hS' hl hl' h h'
  have CO := fun A1 c1 W hW => Of_e A1 (dhV key pt) c1 W hW
  rw [dhV_length] at CO
  have hlt : ofN (dhV key pt) < pp := ofN_lt _
  have CZ := fun W => Zero_e (ofN (dhV key pt)) W hlt
  rw [decide_eq_false (ofN_ne hz)] at CZ
  obtain ⟨v, hv⟩ : ∃ v, v = dhV key pt := ⟨_, rfl⟩
  rw [← hv] at CM CO CZ ⊢
  have HCM := hid CM; have HCO := hid CO; have HCZ := hid CZ
  clear CM CO CZ hv hS hS' h h' hl hl' hz hlt
  go_enter Tryz.func15, Tryz.ntmps15
  go_wp2_with fail
  refine HCM.out.mono ?_
  rintro e w1 ⟨A1, c1, rfl, hS1, hN1, hb1⟩
  have HS1 := hid hS1; have HB1 := hid hb1; have HN1 := hid hN1
  clear hS1 hb1 hN1
  go_wp2_with fail
  refine (HCO.out _ _ _ HS1.out).mono ?_
  rintro e w2 ⟨rfl, hb2⟩
  have HS2 := hid (HS1.out.on6 hb2); have HB2 := hid (HB1.out.trans (hb2.mono HB1.out.size))
  clear hb2
  go_wp2_with fail
  refine (HCZ.out _).mono ?_
  rintro e w3 ⟨rfl, hb3⟩
  have HS3 := hid (HS2.out.on6 hb3); have HB3 := hid (HB2.out.trans (hb3.mono HB2.out.size))
  clear hb3
  go_wp2_with fail
  go_ret2
  exact ⟨_, _, rfl, HS3.out, HN1.out, HB3.out⟩
set_option maxHeartbeats 1000000 in
theorem DhShared_zero (h : key.length = 32) (h' : pt.length = 32) (hz : dhV key pt = z32) : Calls Tryz.prog 15 #[.slice A 32 c, .slice A' 32 c'] w (DhErr w 9) := by
  have CM := DhMul_e A key c A' pt c' w hS hS' hl hl' h h'
  have CO := fun A1 c1 W hW => Of_e A1 (dhV key pt) c1 W hW
  rw [dhV_length] at CO
  have hlt : ofN (dhV key pt) < pp := ofN_lt _
  have CZ := fun W => Zero_e (ofN (dhV key pt)) W hlt
  rw [decide_eq_true (ofN_zero hz)] at CZ
  obtain ⟨v, hv⟩ : ∃ v, v = dhV key pt := ⟨_, rfl⟩
  rw [← hv] at CM CO CZ
  have HCM := hid CM; have HCO := hid CO; have HCZ := hid CZ
  clear CM CO CZ hv hS hS' h h' hl hl' hz hlt
  go_enter Tryz.func15, Tryz.ntmps15
  go_wp2_with fail
  refine HCM.out.mono ?_
  rintro e w1 ⟨A1, c1, rfl, hS1, hN1, hb1⟩
  have HS1 := hid hS1; have HB1 := hid hb1
  clear hS1 hb1 hN1
  go_wp2_with fail
  refine (HCO.out _ _ _ HS1.out).mono ?_
  rintro e w2 ⟨rfl, hb2⟩
  have HB2 := hid (HB1.out.trans (hb2.mono HB1.out.size))
  clear hb2
  go_wp2_with fail
  refine (HCZ.out _).mono ?_
  rintro e w3 ⟨rfl, hb3⟩
  have HB3 := hid (HB2.out.trans (hb3.mono HB2.out.size))
  clear hb3
  go_wp2_with fail
  go_ret2
  exact ⟨_, _, rfl, HB3.out⟩
theorem DhShared_arg (h : key.length ≠ 32) : Calls Tryz.prog 15 #[.slice A key.length c, .slice A' pt.length c'] w (DhErr w 1) := by
  have HCM := hid (DhMul_arg A key c A' pt c' w hS hS' hl hl' h)
  clear hS hS' h hl hl'
  go_enter Tryz.func15, Tryz.ntmps15
  go_wp2_with fail
  refine HCM.out.mono ?_
  rintro e w1 ⟨A1, c1, rfl, hb1⟩
  have HB1 := hid hb1
  clear hb1
  go_wp2_with fail
  go_ret2
  exact ⟨_, _, rfl, HB1.out⟩
theorem DhShared_form (h : key.length = 32) (h' : pt.length ≠ 32) : Calls Tryz.prog 15 #[.slice A 32 c, .slice A' pt.length c'] w (DhErr w 3) := by
  have HCM := hid (DhMul_form A key c A' pt c' w hS hS' hl hl' h h')
  clear hS hS' h hl hl' h'
  go_enter Tryz.func15, Tryz.ntmps15
  go_wp2_with fail
  refine HCM.out.mono ?_
  rintro e w1 ⟨A1, c1, rfl, hb1⟩
  have HB1 := hid hb1
  clear hb1
  go_wp2_with fail
  go_ret2
  exact ⟨_, _, rfl, HB1.out⟩
omit hS' hl'
set_option maxHeartbeats 1000000 in
theorem DhBase_e (h : key.length = 32) : Calls Tryz.prog 12 #[.slice A 32 c] w (DhOk w (dhV key (b32 9))) := by
  have CN := numE 9 (r := (9 : FF)) (by omega) (by decide +kernel)
  have CB := bytesE (9 : FF)
  rw [nine_bytes] at CB
  have CM := fun A1 c1 W (h1 : Sq W W.heap.size A c (bvs key)) (h2 : Sq W W.heap.size A1 c1 (bvs (b32 9))) => DhMul_e A key c A1 (b32 9) c1 W h1 h2 hl (by rw [b32_length]; omega) h (b32_length 9)
  obtain ⟨nine, hn⟩ : ∃ x : FF, x = 9 := ⟨_, rfl⟩
  rw [← hn] at CN CB
  obtain ⟨b9, hb9⟩ : ∃ x, x = b32 9 := ⟨_, rfl⟩
  have hbl : b9.length = 32 := by rw [hb9]; exact b32_length 9
  rw [← hb9] at CM CB ⊢
  have HCM := hid CM; have HBL := hid hbl; have HS := hid hS
  clear CM hn hb9 hbl hS hl h
  go_enter Tryz.func12, Tryz.ntmps12
  go_wp2_with fail
  refine (CN.out _).mono ?_
  rintro e w1 ⟨rfl, hb1⟩
  have HB1 := hid hb1; have HS1 := hid (HS.out.on6 hb1)
  clear hb1
  go_wp2_with fail
  refine (CB.out _).mono ?_
  rintro e w2 ⟨x, rfl, ho, hb2⟩
  obtain ⟨A4, c4, rfl, hS4, hn4⟩ := own32 (w := w) ho HBL.out HB1.out.size
  have HS4 := hid hS4; have HS2 := hid (HS1.out.on6 hb2); have HB2 := hid (HB1.out.trans (hb2.mono HB1.out.size))
  clear ho hb2 hS4 hn4
  go_wp2_with fail
  refine (HCM.out _ _ _ HS2.out HS4.out).mono ?_
  intro e w3 hok
  obtain ⟨A5, c5, rfl, hS5, hN5, hb5⟩ := DhOk.on HB2.out hok
  have HS5 := hid hS5; have HN5 := hid hN5; have HB5 := hid hb5
  clear hok hS5 hN5 hb5
  go_wp2_with fail
  go_ret2
  exact ⟨_, _, rfl, HS5.out, HN5.out, HB5.out⟩
omit hl
end
end
end Go.Proofs.YtpkmidaflnbobaaGreatDoor
end
