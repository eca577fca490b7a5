/-
  Texts of this claim in one file: Ref06o, Ref08, Ref02b, Ref03a, Ref03b, Ref03d, Ref03e, Ref03g, Ref06p.
-/
import Derived.Test.YtheamlhhfkaknaaGreatDoorPk0
import Derived.Test.YtheamlhhfkaknaaGreatDoorPk30
import Derived.Test.YtheamlhhfkaknaaGreatDoorPk31
import Derived.Test.YtheamlhhfkaknaaGreatDoorPk5
import Derived.Test.YtheamlhhfkaknaaGreatDoorPk4
import Derived.Test.YtheamlhhfkaknaaGreatDoorPk26
import Derived.Test.YtheamlhhfkaknaaGreatDoorPk28
import Derived.Test.YtheamlhhfkaknaaGreatDoorPk2
section
namespace Go.Proofs.YtheamlhhfkaknaaGreatDoor
open Go.RowKit
set_option linter.unusedVariables false
set_option linter.unusedSimpArgs false
set_option exponentiation.threshold 2000
theorem leN_drop (xs : List UInt8) (k : Nat) (h : k < xs.length) : leN (xs.drop k) = leN (xs.drop (k + 1)) * 256 + xs[k].toNat := by
  rw [List.drop_eq_getElem_cons h, leN]; omega
theorem leN_dig7 (xs : List UInt8) (k : Nat) (h : xs.length ≤ 1000) : leN (xs.drop k) < 32768 ^ 600 := by
  have h1 := leN_lt (xs.drop k)
  have h2 : 256 ^ (xs.drop k).length ≤ 256 ^ 1000 := Nat.pow_le_pow_right (by omega) (by rw [List.length_drop]; omega)
  have h3 : (256 : Nat) ^ 1000 < 32768 ^ 600 := by
    rw [show (1000 : Nat) = 200 * 5 from rfl, show (600 : Nat) = 200 * 3 from rfl, Nat.pow_mul', Nat.pow_mul']
    exact Nat.pow_lt_pow_left (by decide +kernel) (by omega)
  exact Nat.lt_of_lt_of_le (Nat.lt_of_lt_of_le h1 h2) (Nat.le_of_lt h3)
theorem dgl7 (N : Nat) (h : N < 32768 ^ 600) : (dg N).length ≤ 1073741824 := Nat.le_trans ((dg_length_le N 600).2 h) (by omega)
set_option maxHeartbeats 1000000 in
theorem Of6_any (A : Option Addr) (xs : List UInt8) (c : Nat) (w : World) (hS : Sq w w.heap.size A c (bvs xs)) (hl : xs.length ≤ 1000) :
    Calls Tryz.prog 27 #[.slice A xs.length c] w (BigR w (leN xs)) := by
  have HS := hid hS
  have HN : Hid (∀ W, Calls Tryz.prog 41 #[.int .u64 256] W (BigR W 256)) := hid fun W => Num_any 256 W (by omega)
  have HL256 := hid (dgl7 256 (by decide +kernel))
  have HDL := hid (fun k => leN_dig7 xs k hl)
  have hd0 : leN (xs.drop 0) = leN xs := by rw [List.drop_zero]
  obtain ⟨L, hL⟩ : ∃ L, L = leN xs := ⟨_, rfl⟩
  rw [← hL] at hd0 ⊢
  have HD0 := hid hd0
  have hw1 : IntKind.i64.wrap ((xs.length : Int) - 1) = (xs.length : Int) - 1 := IntWalk.i64_in _ (by omega)
  clear hS hd0 hL
  go_enter Tryz.func27, Tryz.ntmps27
  go_wp2
  clear hw1
  go_loopg [3, 4] xs.length (fun g v i wr => ∃ (k : Nat) (A1 : Option Addr) (c1 : Nat), v = .slice A1 (dg (leN (xs.drop k))).length c1 ∧ Sq wr wr.heap.size A1 c1 (ivs (dg (leN (xs.drop k)))) ∧ g = k ∧ k ≤ xs.length ∧ i = .int .i64 ((k : Int) - 1) ∧ Below w.heap.size w wr)
  case atStart => exact ⟨xs.length, none, 0, by rw [List.drop_length, leN, dg_zero]; rfl, by rw [List.drop_length, leN, dg_zero]; exact Sq.nil, rfl, Nat.le_refl _, rfl, Below.refl _ _⟩
  case round =>
    obtain ⟨k, A1, c1, rfl, hS1, hg, hk, rfl, hb⟩ := hrel
    have HS1 := hid hS1; have HG := hid hg; have HB := hid hb
    clear hS1 hg hb
    rcases k with _ | k
    · have hx : ¬ (0 : Int) ≤ ((0 : Nat) : Int) - 1 := by omega
      rw [HD0.out] at HS1 ⊢
      go_wp2
      go_ret
      exact ⟨A1, c1, rfl, HS1.out, HB.out⟩
    · have hx : (0 : Int) ≤ ((k + 1 : Nat) : Int) - 1 := by omega
      have hkl : k < xs.length := by omega
      have hk1 : ((k + 1 : Nat) : Int) - 1 = (k : Int) := by omega
      rw [hk1] at hx ⊢
      have hk0 : (k : Int) < (xs.length : Int) := by omega
      obtain ⟨b, o, rfl, hbl, hcell⟩ := ((HS.out.below HB.out).lie).byte hkl
      have hnx := leN_drop xs k hkl
      obtain ⟨y, hy⟩ : ∃ y, y = xs[k] := ⟨_, rfl⟩
      rw [← hy] at hcell hnx
      obtain ⟨M, hM⟩ : ∃ M, M = leN (xs.drop (k + 1)) := ⟨_, rfl⟩
      obtain ⟨M2, hM2⟩ : ∃ M2, M2 = leN (xs.drop k) := ⟨_, rfl⟩
      have hMl : M < 32768 ^ 600 := by rw [hM]; exact HDL.out _
      have hM2l : M2 < 32768 ^ 600 := by rw [hM2]; exact HDL.out _
      rw [← hM] at HS1 hnx ⊢
      rw [← hM2] at hnx
      have hyl := y.toNat_lt
      have hyw : IntKind.u64.wrap (y.toNat : Int) = (y.toNat : Int) := by rw [IntKind.wrap_u64]; omega
      have HY : Hid (∀ W, Calls Tryz.prog 41 #[.int .u64 (y.toNat : Int)] W (BigR W y.toNat)) := hid fun W => Num_any y.toNat W (by omega)
      have MU : Hid (∀ W A c, Below wr.heap.size wr W → Sq W W.heap.size A c (ivs (dg 256)) → Calls Tryz.prog 20 #[.slice A1 (dg M).length c1, .slice A (dg 256).length c] W (BigR W (M * 256))) := hid fun W A c hB hS =>
        Mul_any M 256 A1 A c1 c W (HS1.out.on6 hB) hS (dgl7 M hMl) HL256.out
      have AD : Hid (∀ W A c A' c', Sq W W.heap.size A c (ivs (dg (M * 256))) → Sq W W.heap.size A' c' (ivs (dg y.toNat)) → Calls Tryz.prog 19 #[.slice A (dg (M * 256)).length c, .slice A' (dg y.toNat).length c'] W (BigR W M2)) := hid fun W A c A' c' hS hS' => by
        have h := Add_any (M * 256) y.toNat A A' c c' W hS hS' (dgl7 _ (by omega)) (dgl7 _ (by omega))
        rw [← hnx] at h
        exact h
      have CK : Hid (∀ W, Below wr.heap.size wr W → W.cell? ⟨b, o + k, none⟩ = some (.int .u8 (y.toNat : Int)) ∧ Below wr.heap.size wr W) := hid fun W h => ⟨(h.cell (p := ⟨b, o + k, none⟩) (by have := HB.out.size; simp only; omega)).trans hcell, h⟩
      have HM2 := hid hM2
      clear hM hM2 hMl hM2l hnx hy hyl hcell
      go_wp2_with fail
      go_region_held3 (fun w' => w'.cell? ⟨b, o + k, none⟩ = some (.int .u8 (y.toNat : Int)) ∧ Below wr.heap.size wr w')
        (first
          | exact CK.out _ hB9 | exact CK.out _ hB8 | exact CK.out _ hB7 | exact CK.out _ hB6
          | exact CK.out _ (Below.refl _ _).drew)
        (first
          | (go_at_call 41; (with_reducible refine Calls.mono (HN.out _) ?_); rintro e w6 ⟨A6, c6, rfl, hS6, hb6⟩; have hB6 : Below wr.heap.size wr w6 := (Below.refl _ wr).drew.trans (hb6.mono (Nat.le_refl _)))
          | (go_at_call 20; refine (MU.out _ _ _ hB6 hS6).mono ?_; rintro e w7 ⟨A7, c7, rfl, hS7, hb7⟩; have hB7 := hB6.trans (hb7.mono hB6.size))
          | (go_at_call 41; (with_reducible refine Calls.mono (HY.out _) ?_); rintro e w8 ⟨A8, c8, rfl, hS8, hb8⟩; have hB8 := hB7.trans (hb8.mono hB7.size); have hS78 := hS7.on6 hb8)
          | (go_at_call 19; refine (AD.out _ _ _ _ _ hS78 hS8).mono ?_; rintro e w9 ⟨A9, c9, rfl, hS9, hb9⟩; have hB9 := hB8.trans (hb9.mono hB8.size)))
      have HS9 := hid hS9
      have HB9 := hid (HB.out.trans (hB9.mono HB.out.size))
      clear hS6 hb6 hB6 hS7 hb7 hB7 hS8 hb8 hB8 hS78 hS9 hb9 hB9 HY MU AD CK
      go_wp2
      have hg := HG.out
      go_roundg k
      case measure => omega
      case rel => exact ⟨k, A9, c9, by rw [← HM2.out], by rw [← HM2.out]; exact HS9.out, rfl, by omega, by go_num, HB9.out⟩
end Go.Proofs.YtheamlhhfkaknaaGreatDoor
end
section
namespace Go.Proofs.YtheamlhhfkaknaaGreatDoor
open Go.RowKit
set_option linter.unusedVariables false
set_option linter.unusedSimpArgs false
set_option exponentiation.threshold 2000
/-- The digits, as bytes. -/
def dgS : List UInt8 := [50, 55, 55, 52, 50, 51, 49, 55, 55, 55, 55, 51, 55, 50, 51, 53, 51, 53, 51, 53, 56, 53, 49, 57, 51, 55, 55, 57, 48, 56, 56, 51, 54, 52, 56, 52, 57, 51]
def prefS (k : Nat) : Nat := (dgS.take k).foldl (fun n d => n * 10 + (d.toNat - 48)) 0
theorem prefS_zero : prefS 0 = 0 := rfl
theorem prefS_end : prefS 38 = 27742317777372353535851937790883648493 := by decide +kernel
theorem prefS_next (k : Nat) (h : k < 38) : prefS (k + 1) = prefS k * 10 + ((dgS.getD k 0).toNat - 48) ∧ 48 ≤ (dgS.getD k 0).toNat ∧ (dgS.getD k 0).toNat ≤ 57 := by
  have : ∀ k : Fin 38, prefS (k.val + 1) = prefS k.val * 10 + ((dgS.getD k.val 0).toNat - 48) ∧ 48 ≤ (dgS.getD k.val 0).toNat ∧ (dgS.getD k.val 0).toNat ≤ 57 := by decide +kernel
  exact this ⟨k, h⟩
theorem prefS_lt (k : Nat) (h : k ≤ 38) : prefS k < 32768 ^ 50 := by
  have : ∀ k : Fin 39, prefS k.val < 32768 ^ 50 := by decide +kernel
  exact this ⟨k, by omega⟩
def dgB : ByteArray := ⟨⟨dgS⟩⟩
theorem dgB_size : dgB.size = 38 := rfl
theorem index_dgB (W : World) (k : Nat) (h : k < 38) : (Instr.index 9 (.string dgB) (.int .i64 (k : Int))).run Tryz.prog W = .ok (.int .u8 ((dgS.getD k 0).toNat : Int)) W := by
  have hu : Tryz.prog.underlying 9 = some .string := by kernel_rfl
  have hi : (0 : Int) ≤ (k : Int) ∧ (k : Int) < (dgB.size : Int) := by rw [dgB_size]; omega
  rw [run_index_string W 9 dgB .i64 (k : Int) hu, dif_pos hi]
  have e : ∀ (j : Nat) (hj : j < dgB.size), dgB[j] = dgS.getD j 0 := fun j hj => by
    rw [dgB_size] at hj
    have : ∀ j : Fin 38, dgB[j.val]'(by rw [dgB_size]; exact j.isLt) = dgS.getD j.val 0 := by decide +kernel
    exact this ⟨j, hj⟩
  have e2 := e (k : Int).toNat (by rw [dgB_size]; omega)
  rw [e2, Int.toNat_natCast]
set_option maxHeartbeats 1000000 in
theorem Order_any (w : World) : Calls Tryz.prog 28 #[] w (BigR w ordL) := by
  have HN : Hid (∀ W, Calls Tryz.prog 41 #[.int .u64 10] W (BigR W 10)) := hid fun W => Num_any 10 W (by omega)
  have HP : Hid (∀ W, Calls Tryz.prog 52 #[.int .i64 252] W (BigR W (2 ^ 252))) := hid fun W => Pow_any 252 W (by omega)
  have bl : ∀ N, N < 32768 ^ 50 → (dg N).length ≤ 1073741824 := fun N h => Nat.le_trans (dgl6 N h) (by omega)
  have h10 := bl 10 (by decide +kernel)
  have H10 := hid h10
  have h252 := bl (2 ^ 252) (by decide +kernel)
  have HAD : Hid (∀ W A c A' c', Sq W W.heap.size A c (ivs (dg (2 ^ 252))) → Sq W W.heap.size A' c' (ivs (dg (prefS 38))) → Calls Tryz.prog 19 #[.slice A (dg (2 ^ 252)).length c, .slice A' (dg (prefS 38)).length c'] W (BigR W ordL)) := hid fun W A c A' c' h h' => by
    have h := Add_any (2 ^ 252) (prefS 38) A A' c c' W h h' h252 (bl _ (prefS_lt 38 (Nat.le_refl _)))
    rw [ordL_def, ← prefS_end]
    exact h
  obtain ⟨T, hT⟩ : ∃ T, T = 2 ^ 252 := ⟨_, rfl⟩
  rw [← hT] at HP HAD
  have HBL := hid bl
  clear hT h252 h10 bl
  go_enter Tryz.func28, Tryz.ntmps28
  go_wp2
  rw [show Value.string ⟨(50 :: 55 :: 55 :: 52 :: 50 :: 51 :: 49 :: 55 :: 55 :: 55 :: 55 :: 51 :: 55 :: 50 :: 51 :: 53 :: 51 :: 53 :: 51 :: 53 :: 56 :: 53 :: 49 :: 57 :: 51 :: 55 :: 55 :: 57 :: 48 :: 56 :: 56 :: 51 :: 54 :: 52 :: 56 :: 52 :: 57 :: 51 :: []).toArray⟩ = Value.string dgB from rfl]
  go_loopg [1, 3] 38 (fun g v i wr => ∃ (k : Nat) (A1 : Option Addr) (c1 : Nat), k + g = 38 ∧ i = .int .i64 (k : Int) ∧ v = .slice A1 (dg (prefS k)).length c1 ∧ Sq wr wr.heap.size A1 c1 (ivs (dg (prefS k))) ∧ Below w.heap.size w wr)
  case atStart => exact ⟨0, none, 0, rfl, rfl, by rw [prefS_zero, dg_zero]; rfl, by rw [prefS_zero, dg_zero]; exact Sq.nil, Below.refl _ _⟩
  case round =>
    obtain ⟨k, A1, c1, hk, rfl, rfl, hS1, hb⟩ := hrel
    have hsz := dgB_size
    have HS1 := hid hS1; have HK := hid hk; have HB := hid hb
    have hk38 : k ≤ 38 := by omega
    clear hS1 hk hb
    by_cases hlt : k < 38
    · have hx : (k : Int) < 38 := by omega
      have hk0 : (0 : Int) ≤ (k : Int) := by omega
      obtain ⟨hnx, hd1, hd2⟩ := prefS_next k hlt
      have hix := fun W => index_dgB W k hlt
      have hpl := prefS_lt k hk38
      have hpl1 := prefS_lt (k + 1) hlt
      obtain ⟨d, hd⟩ : ∃ d, d = (dgS.getD k 0).toNat := ⟨_, rfl⟩
      rw [← hd] at hnx hd1 hd2
      simp only [← hd] at hix
      obtain ⟨M, hM⟩ : ∃ M, M = prefS k := ⟨_, rfl⟩
      obtain ⟨M2, hM2⟩ : ∃ M2, M2 = prefS (k + 1) := ⟨_, rfl⟩
      rw [← hM] at HS1 hnx hpl ⊢
      rw [← hM2] at hnx hpl1
      obtain ⟨q, hq⟩ : ∃ q, q = d - 48 := ⟨_, rfl⟩
      rw [← hq] at hnx
      have hdw : IntKind.u64.wrap (d : Int) = (d : Int) := by rw [IntKind.wrap_u64]; omega
      have hqw : IntKind.u64.wrap ((d : Int) - 48) = (q : Int) := by rw [IntKind.wrap_u64]; omega
      have HQ : Hid (∀ W, Calls Tryz.prog 41 #[.int .u64 (q : Int)] W (BigR W q)) := hid fun W => Num_any q W (by omega)
      have MU : Hid (∀ W A c, Below wr.heap.size wr W → Sq W W.heap.size A c (ivs (dg 10)) → Calls Tryz.prog 20 #[.slice A1 (dg M).length c1, .slice A (dg 10).length c] W (BigR W (M * 10))) := hid fun W A c hB hS =>
        Mul_any M 10 A1 A c1 c W (HS1.out.on6 hB) hS (HBL.out M hpl) H10.out
      have AD : Hid (∀ W A c A' c', Sq W W.heap.size A c (ivs (dg (M * 10))) → Sq W W.heap.size A' c' (ivs (dg q)) → Calls Tryz.prog 19 #[.slice A (dg (M * 10)).length c, .slice A' (dg q).length c'] W (BigR W M2)) := hid fun W A c A' c' hS hS' => by
        have h := Add_any (M * 10) q A A' c c' W hS hS' (HBL.out _ (by omega)) (HBL.out _ (Nat.lt_of_le_of_lt (show q ≤ 9 by omega) (by decide +kernel)))
        rw [← hnx] at h
        exact h
      have HM2 := hid hM2
      clear hM hM2 hnx hd hd1 hd2 hpl hpl1 hq
      go_wp2_with fail
      go_region_held3 (fun w' => Below wr.heap.size wr w')
        (first
          | exact hB9 | exact hB8 | exact hB7 | exact hB6
          | exact (Below.refl _ _).drew)
        (first
          | (go_at_call 41; (with_reducible refine Calls.mono (HN.out _) ?_); rintro e w6 ⟨A6, c6, rfl, hS6, hb6⟩; have hB6 : Below wr.heap.size wr w6 := (Below.refl _ wr).drew.trans (hb6.mono (Nat.le_refl _)))
          | (go_at_call 20; refine (MU.out _ _ _ hB6 hS6).mono ?_; rintro e w7 ⟨A7, c7, rfl, hS7, hb7⟩; have hB7 := hB6.trans (hb7.mono hB6.size))
          | (go_at_call 41; (with_reducible refine Calls.mono (HQ.out _) ?_); rintro e w8 ⟨A8, c8, rfl, hS8, hb8⟩; have hB8 := hB7.trans (hb8.mono hB7.size); have hS78 := hS7.on6 hb8)
          | (go_at_call 19; refine (AD.out _ _ _ _ _ hS78 hS8).mono ?_; rintro e w9 ⟨A9, c9, rfl, hS9, hb9⟩; have hB9 := hB8.trans (hb9.mono hB8.size)))
      all_goals
        have HS9 := hid hS9
        have HB9 := hid (HB.out.trans (hB9.mono HB.out.size))
        clear hS6 hb6 hB6 hS7 hb7 hB7 hS8 hb8 hB8 hS78 hS9 hb9 hB9 HQ MU AD hix
        go_wp2
        have hk := HK.out
        go_roundg (38 - k - 1)
        case measure => omega
        case rel => exact ⟨k + 1, A9, c9, by omega, by go_num, by rw [← HM2.out], by rw [← HM2.out]; exact HS9.out, HB9.out⟩
    · obtain rfl : k = 38 := by omega
      have hx : ¬ ((38 : Nat) : Int) < 38 := by omega
      go_wp2_with fail
      refine (HP.out _).mono ?_
      rintro e w6 ⟨A6, c6, rfl, hS6, hb6⟩
      have HS6 := hid hS6; have HS16 := hid (HS1.out.on6 hb6); have HB6 := hid (HB.out.trans (hb6.mono HB.out.size))
      clear hS6 hb6 HS1 HB
      go_wp2_with fail
      refine (HAD.out _ _ _ _ _ HS6.out HS16.out).mono ?_
      rintro e w7 ⟨A7, c7, rfl, hS7, hb7⟩
      have HS7 := hid hS7; have HB7 := hid (HB6.out.trans (hb7.mono HB6.out.size))
      clear hS7 hb7
      go_wp2
      go_ret
      exact ⟨A7, c7, rfl, HS7.out, HB7.out⟩
theorem Mod8_any (a : Nat) (A : Option Addr) (c : Nat) (w : World) (hS : Sq w w.heap.size A c (ivs (dg a))) (ha : a < 32768 ^ 600) :
    Calls Tryz.prog 10 #[.slice A (dg a).length c] w (BigR w (a % ordL)) := by
  have HS := hid hS
  have HO := hid Order_any
  have hal := (dg_length_le a 600).2 ha
  have hol := (dg_length_le ordL 17).2 ordL_dig
  have HD : Hid (∀ W A' c', Sq W W.heap.size A c (ivs (dg a)) → Sq W W.heap.size A' c' (ivs (dg ordL)) → Calls Tryz.prog 32 #[.slice A (dg a).length c, .slice A' (dg ordL).length c'] W fun e w' => ∃ A1 c1 A2 c2, e = .returned (.tuple #[.slice A1 (dg (a / ordL)).length c1, .slice A2 (dg (a % ordL)).length c2]) ∧ Sq w' w'.heap.size A1 c1 (ivs (dg (a / ordL))) ∧ Sq w' w'.heap.size A2 c2 (ivs (dg (a % ordL))) ∧ Below W.heap.size W w') := hid fun W A' c' h h' =>
    Div_any a ordL A A' c c' W h h' (by omega) (by omega) (by decide +kernel)
  clear hS hal hol ha
  go_enter Tryz.func10, Tryz.ntmps10
  go_wp2_with fail
  refine (HO.out _).mono ?_
  rintro e w1 ⟨A1, c1, rfl, hS1, hb1⟩
  have HS1 := hid hS1; have HSa := hid (HS.out.on6 hb1); have HB1 := hid hb1
  clear hS1 hb1 HS
  go_wp2_with fail
  refine (HD.out _ _ _ HSa.out HS1.out).mono ?_
  rintro e w2 ⟨A2, c2, A3, c3, rfl, -, hS3, hb2⟩
  have HS3 := hid hS3; have HB2 := hid (HB1.out.trans (hb2.mono HB1.out.size))
  clear hS3 hb2
  go_wp2
  go_ret
  exact ⟨A3, c3, rfl, HS3.out, HB2.out⟩
theorem leN_600 (xs : List UInt8) (h : xs.length ≤ 64) : leN xs < 32768 ^ 600 := by
  have h := leN_dig7 xs 0 (by omega)
  rw [List.drop_zero] at h
  exact h
theorem Of8_any (A : Option Addr) (xs : List UInt8) (c : Nat) (w : World) (hS : Sq w w.heap.size A c (bvs xs)) (hl : xs.length ≤ 1000) :
    Calls Tryz.prog 34 #[.slice A xs.length c] w (BigR w (ofL xs)) := by
  have HS := hid hS
  obtain ⟨V, hV⟩ : ∃ V, V = ofL xs := ⟨_, rfl⟩
  rw [← hV]
  by_cases h : 64 < xs.length
  · have hx : (64 : Int) < (xs.length : Int) := by omega
    have hcap := hS.cap
    rw [bvs_length] at hcap
    have hc1 : (64 : Int) ≤ (c : Int) := by omega
    have htl : (xs.take 64).length = 64 := by rw [List.length_take]; omega
    have ht : Sq w w.heap.size A c (bvs (xs.take 64)) := by
      have h := hS.take 64
      unfold bvs at h ⊢
      rw [List.map_take]
      exact h
    have OF := Of6_any A (xs.take 64) c w ht (by omega)
    rw [htl] at OF
    have OF := hid OF
    have MD := hid (fun A c W h => Mod8_any (leN (xs.take 64)) A c W h (leN_600 _ (by omega)))
    rw [show leN (xs.take 64) % ordL = V from hV.symm] at MD
    obtain ⟨b, o, rfl, -⟩ := hS.form (by rw [bvs_length]; omega)
    clear hV hS hcap htl ht h
    go_enter Tryz.func34, Tryz.ntmps34
    go_wp2_with fail
    refine OF.out.mono ?_
    rintro e w2 ⟨A2, c2, rfl, hS2, hb2⟩
    have HS2 := hid hS2; have HB2 := hid hb2
    clear hS2 hb2
    go_wp2_with fail
    refine (MD.out _ _ _ HS2.out).mono ?_
    rintro e w3 ⟨A3, c3, rfl, hS3, hb3⟩
    have HS3 := hid hS3; have HB3 := hid (HB2.out.trans (hb3.mono HB2.out.size))
    clear hS3 hb3
    go_wp2
    go_ret
    exact ⟨A3, c3, rfl, HS3.out, HB3.out⟩
  · have hx : ¬ (64 : Int) < (xs.length : Int) := by omega
    have OF := hid (Of6_any A xs c w hS hl)
    have MD := hid (fun A c W h => Mod8_any (leN xs) A c W h (leN_600 _ (by omega)))
    rw [show leN xs % ordL = V by rw [hV, ofL, List.take_of_length_le (by omega)]] at MD
    clear hV hS h
    go_enter Tryz.func34, Tryz.ntmps34
    go_wp2_with fail
    refine OF.out.mono ?_
    rintro e w2 ⟨A2, c2, rfl, hS2, hb2⟩
    have HS2 := hid hS2; have HB2 := hid hb2
    clear hS2 hb2
    go_wp2_with fail
    refine (MD.out _ _ _ HS2.out).mono ?_
    rintro e w3 ⟨A3, c3, rfl, hS3, hb3⟩
    have HS3 := hid hS3; have HB3 := hid (HB2.out.trans (hb3.mono HB2.out.size))
    clear hS3 hb3
    go_wp2
    go_ret
    exact ⟨A3, c3, rfl, HS3.out, HB3.out⟩
end Go.Proofs.YtheamlhhfkaknaaGreatDoor
end
section
namespace Go.Proofs.YtheamlhhfkaknaaGreatDoor
section
open Go.RowKit
set_option linter.unusedVariables false
set_option linter.unusedSimpArgs false
end
section
open Go.RowKit
set_option linter.unusedVariables false
set_option linter.unusedSimpArgs false
theorem infoU64 : (Tryz.prog.info? 28).map (fun i => (i.zero, i.size, i.bytes)) = some (some (.int .u64 0), 1, 8) := by kernel_rfl
/-- Block g holds the words xs from its beginning on. -/
def RowU (w : World) (g : Nat) (xs : List Nat) : Prop := ∃ cur : Array Value, w.heap[g]? = some (.cells cur 28 (0, 0)) ∧ ∀ (j x : Nat), xs[j]? = some x → cur[j]? = some (.int .u64 (x : Int))
section
variable {w w' : World} {g : Nat} {xs : List Nat}
theorem RowU.lt (h : RowU w g xs) : g < w.heap.size := by obtain ⟨cur, h1, _⟩ := h; exact block_lt h1
theorem RowU.keep (h : RowU w g xs) (hk : w'.heap[g]? = w.heap[g]?) : RowU w' g xs := by obtain ⟨cur, h1, h2⟩ := h; exact ⟨cur, hk.trans h1, h2⟩
theorem RowU.cell (h : RowU w g xs) {j x : Nat} (hx : xs[j]? = some x) : w.cell? ⟨g, j, none⟩ = some (.int .u64 (x : Int)) := by obtain ⟨cur, h1, h2⟩ := h; exact cell_of h1 j _ (h2 j x hx)
theorem RowU.frz (h : RowU w g xs) (j : Nat) : w.frozen? ⟨g, j, none⟩ = false := by obtain ⟨cur, h1, h2⟩ := h; exact frozen_of_row _ _ _ _ _ h1
theorem RowU.set (h : RowU w g xs) (j y : Nat) (hj : j < xs.length) : RowU (w.setCell ⟨g, j, none⟩ (.int .u64 (y : Int))) g (xs.set j y) := by
  obtain ⟨cur, h1, h2⟩ := h
  have hc : j < cur.size := (Array.getElem?_eq_some_iff.1 (h2 j _ (List.getElem?_eq_getElem hj))).1
  refine ⟨_, block_set h1 j _, fun i x hx => ?_⟩
  rw [Array.getElem?_setIfInBounds]
  by_cases e : j = i
  · subst e
    rw [List.getElem?_set_self hj] at hx
    injection hx with hx
    rw [if_pos rfl, if_pos hc, hx]
  · rw [List.getElem?_set_ne e] at hx
    rw [if_neg e]; exact h2 i x hx
theorem RowU.of_own {base n c : Nat} (h : w.ownsRow base 28 1 (.slice (some ⟨g, 0, none⟩) n c) n (uvs xs)) : RowU w g xs := by
  obtain ⟨hl, h⟩ := h
  rcases h with ⟨h1, _⟩ | ⟨g', cap, cur, hv, hb, hg, h1, h2, h3, h4⟩
  · simp at h1
  · simp only [Value.slice.injEq, Option.some.injEq, Addr.mk.injEq] at hv
    obtain ⟨⟨rfl, _⟩, _, rfl⟩ := hv
    refine ⟨cur, hg, fun j x hx => ?_⟩
    have hu : (uvs xs)[j]? = some (.int .u64 (x : Int)) := by rw [uvs, List.getElem?_map, hx]; rfl
    rw [← h4, List.getElem?_take] at hu
    split at hu
    · rw [Array.getElem?_toList] at hu; exact hu
    · cases hu
end
theorem uvs_get {w : World} {B : Nat} {A : Option Addr} {c : Nat} {xs : List Nat} (h : Sq w B A c (uvs xs)) {k : Nat} (hk : k < xs.length) : ∃ b o, A = some ⟨b, o, none⟩ ∧ b < B ∧ w.cell? ⟨b, o + k, none⟩ = some (.int .u64 ((xs.getD k 0 : Nat) : Int)) := by
  obtain ⟨b, o, hA, hb, hc⟩ := h.lie.at_ (k := k) (by simpa using hk)
  refine ⟨b, o, hA, hb, ?_⟩
  rw [hc, List.getD_eq_getElem?_getD, List.getElem?_eq_getElem hk]
  simp [uvs]
theorem emptyR_row (W : World) (e : TypeId) {k base : Nat} (h : W.heap.size = k) (hb : base ≤ k) : (W.alloc (.cells #[] e)).ownsRow base e 1 (.slice (some ⟨k, 0, none⟩) 0 0) 0 [] := by
  subst h
  exact World.ownsRow_lit W #[] 0 hb (by simp) rfl
theorem ownU_form {w : World} {base n : Nat} {e : TypeId} {v : Value} {xs : List Value} (h : w.ownsRow base e 1 v n xs) (hn : 0 < n) : ∃ g c, v = .slice (some ⟨g, 0, none⟩) n c ∧ base ≤ g ∧ g < w.heap.size ∧ n ≤ c ∧ c ≤ 9223372036854775807 := by
  obtain ⟨hl, h⟩ := h
  rcases h with ⟨_, h2⟩ | ⟨g', cap, cur, hv, hb, hg, h1, h2, h3, h4⟩
  · omega
  · exact ⟨g', cap, hv, hb, block_lt hg, h1, by simpa [maxLen] using h2⟩
/-- The call owns the words. -/
def OwnU (w : World) (B : Nat) (v : Value) (xs : List Nat) : Prop := w.ownsRow B 28 1 v xs.length (uvs xs)
theorem ownu_snoc {w : World} {B : Nat} {v : Value} {xs : List Nat} {n y : Nat} {z : Int} (h : w.ownsRow B 28 1 v n (uvs xs ++ [.int .u64 z])) (hn : n = xs.length + 1) (hz : z = (y : Int)) : OwnU w B v (xs ++ [y]) := by
  subst hn; subst hz
  unfold OwnU
  rw [uvs_append]
  simpa [uvs] using h
theorem ownu_nil (w : World) (B : Nat) : OwnU w B (.slice none 0 0) [] := ⟨rfl, .inl ⟨rfl, rfl⟩⟩
theorem byte_cell {w : World} {B b o : Nat} {xs : List UInt8} (h : Lie w B (some ⟨b, o, none⟩) (bvs xs)) {k : Nat} (hk : k < xs.length) : w.cell? ⟨b, o + k, none⟩ = some (.int .u8 (((xs.getD k 0).toNat : Nat) : Int)) := by
  obtain ⟨b', o', h1, _, h2⟩ := h.byte hk
  simp only [Option.some.injEq, Addr.mk.injEq] at h1
  obtain ⟨rfl, rfl, _⟩ := h1
  rw [h2, List.getD_eq_getElem?_getD, List.getElem?_eq_getElem hk]; rfl
theorem word_cell {w : World} {B b o : Nat} {xs : List Nat} (h : Lie w B (some ⟨b, o, none⟩) (uvs xs)) {k : Nat} (hk : k < xs.length) : w.cell? ⟨b, o + k, none⟩ = some (.int .u64 ((xs.getD k 0 : Nat) : Int)) := by
  obtain ⟨b', o', h1, _, h2⟩ := h.at_ (k := k) (by simpa using hk)
  simp only [Option.some.injEq, Addr.mk.injEq] at h1
  obtain ⟨rfl, rfl, _⟩ := h1
  rw [h2, List.getD_eq_getElem?_getD, List.getElem?_eq_getElem hk]; simp [uvs]
theorem RowU.lie {w : World} {g : Nat} {xs : List Nat} (h : RowU w g xs) : Lie w (g + 1) (some ⟨g, 0, none⟩) (uvs xs) := fun _ =>
  ⟨g, 0, rfl, by omega, fun j x hx => by
    rw [Nat.zero_add]
    have hj : j < xs.length := by
      have := (List.getElem?_eq_some_iff.1 hx).1
      simpa using this
    have h2 := h.cell (List.getElem?_eq_getElem hj)
    rw [h2, ← hx, uvs, List.getElem?_map, List.getElem?_eq_getElem hj]; rfl⟩
end
end Go.Proofs.YtheamlhhfkaknaaGreatDoor
end
section
namespace Go.Proofs.YtheamlhhfkaknaaGreatDoor
open Go.RowKit
set_option linter.unusedVariables false
set_option linter.unusedSimpArgs false
set_option maxHeartbeats 400000 in
theorem turn3_any (x n : Nat) (w : World) (hx : x < 18446744073709551616) (hn : n ≤ 64) :
    Calls Tryz.prog 61 #[.int .u64 (x : Int), .int .i64 (n : Int)] w fun e w' => e = .returned (.int .u64 ((rotrL x n : Nat) : Int)) ∧ w = w' := by
  have HE := hid (turnNL_eq x n hn)
  go_enter Tryz.func61, Tryz.ntmps61
  go_wp2
  go_loopg [0, 5] n (fun g a i wr => ∃ k : Nat, k + g = n ∧ i = .int .i64 (k : Int) ∧ a = .int .u64 ((turnNL x k : Nat) : Int) ∧ turnNL x k < 18446744073709551616 ∧ wr = w)
  case atStart => exact ⟨0, by omega, rfl, rfl, hx, rfl⟩
  case round =>
    obtain ⟨k, hk, rfl, rfl, hl, rfl⟩ := hrel
    have HK := hid hk
    have hkn : k ≤ n := by omega
    have hnx : turnNL x (k + 1) = turn1L (turnNL x k) := rfl
    obtain ⟨y, hy⟩ : ∃ y, y = turnNL x k := ⟨_, rfl⟩
    rw [← hy] at hl hnx ⊢
    have hl2 := turn1L_lt y hl
    unfold turn1L at hnx hl2
    have HNX := hid hnx; have HL2 := hid hl2; have HY := hid hy
    clear hk hnx hl2 hy
    by_cases hlt : k < n
    · have hki : (k : Int) < (n : Int) := by omega
      go_wp2
      have hk := HK.out
      go_roundg (n - k - 1)
      case measure => omega
      case rel => exact ⟨k + 1, by omega, by go_num, by rw [HNX.out]; go_num, by rw [HNX.out]; exact HL2.out, rfl⟩
    · obtain rfl : k = n := by omega
      have hki : ¬ (k : Int) < (k : Int) := by omega
      clear HK
      go_wp2
      go_ret
      exact ⟨ret_int (by rw [HY.out, HE.out]), rfl⟩
set_option maxHeartbeats 400000 in
theorem shift3_any (x n : Nat) (w : World) (hx : x < 18446744073709551616) (hn : n ≤ 64) :
    Calls Tryz.prog 62 #[.int .u64 (x : Int), .int .i64 (n : Int)] w fun e w' => e = .returned (.int .u64 ((x / 2 ^ n : Nat) : Int)) ∧ w = w' := by
  go_enter Tryz.func62, Tryz.ntmps62
  go_wp2
  go_loopg [0, 5] n (fun g a i wr => ∃ k y : Nat, k + g = n ∧ i = .int .i64 (k : Int) ∧ a = .int .u64 (y : Int) ∧ y = x / 2 ^ k ∧ wr = w)
  case atStart => exact ⟨0, x, by omega, rfl, rfl, by simp, rfl⟩
  case round =>
    obtain ⟨k, y, hk, rfl, rfl, hy, rfl⟩ := hrel
    have hyl : y < 18446744073709551616 := by rw [hy]; exact Nat.lt_of_le_of_lt (Nat.div_le_self _ _) hx
    have HK := hid hk; have HY := hid hy
    have hkn : k ≤ n := by omega
    clear hk hy
    by_cases hlt : k < n
    · have hki : (k : Int) < (n : Int) := by omega
      go_wp2
      have hk := HK.out
      go_roundg (n - k - 1)
      case measure => omega
      case rel => exact ⟨k + 1, y / 2, by omega, by go_num, by go_num, by rw [HY.out, Nat.pow_succ, Nat.div_div_eq_div_mul], rfl⟩
    · obtain rfl : k = n := by omega
      have hki : ¬ (k : Int) < (k : Int) := by omega
      clear HK
      go_wp2
      go_ret
      exact ⟨ret_int (by rw [HY.out]; simp), rfl⟩
theorem turn3_l (x n : Nat) (z : Int) (a : Nat) (hx : x < 18446744073709551616) (hn : n ≤ 64) (hz : z = (n : Int)) (ha : a = rotrL x n) (w : World) (k : Nat) :
    Calls Tryz.prog 61 #[.int .u64 (x : Int), .int .i64 z] (w.drewN k) fun e w'' => e = .returned (.int .u64 (a : Int)) ∧ ∃ m, w'' = w.drewN m := by
  subst hz; subst ha
  exact (turn3_any x n _ hx hn).mono fun _ _ h => ⟨h.1, k, h.2.symm⟩
theorem shift3_l (x n : Nat) (z : Int) (a : Nat) (hx : x < 18446744073709551616) (hn : n ≤ 64) (hz : z = (n : Int)) (ha : a = x / 2 ^ n) (w : World) (k : Nat) :
    Calls Tryz.prog 62 #[.int .u64 (x : Int), .int .i64 z] (w.drewN k) fun e w'' => e = .returned (.int .u64 (a : Int)) ∧ ∃ m, w'' = w.drewN m := by
  subst hz; subst ha
  exact (shift3_any x n _ hx hn).mono fun _ _ h => ⟨h.1, k, h.2.symm⟩
theorem xor3L_u64 (a b c : Nat) (ha : a < 18446744073709551616) (hb : b < 18446744073709551616) (hc : c < 18446744073709551616) : bits .xor .u64 (bits .xor .u64 (a : Int) (b : Int)) (c : Int) = ((a ^^^ b ^^^ c : Nat) : Int) := by
  have hab : a ^^^ b < 18446744073709551616 := Nat.xor_lt_two_pow (n := 64) ha hb
  rw [bits_xor_u64_nat _ _ ha hb, bits_xor_u64_nat _ _ hab hc]
theorem addL_u64 (a b r : Nat) (hr : r = (a + b) % 18446744073709551616) : IntKind.u64.wrap ((a : Int) + (b : Int)) = (r : Int) := by
  rw [hr, IntKind.wrap_u64]; omega
theorem bitL_q (x z : Nat) (hx : x < 18446744073709551616) : ∃ X X2 : Nat, IntKind.u64.wrap ((x : Int) / (z : Int)) = (X : Int) ∧ Int.tmod (X : Int) 2 = (X2 : Int) ∧ X2 = x / z % 2 ∧ X2 < 2 := by
  refine ⟨x / z, x / z % 2, ?_, (Int.ofNat_tmod _ 2).symm, rfl, Nat.mod_lt _ (by omega)⟩
  have := Nat.div_le_self x z
  rw [show (x : Int) / (z : Int) = ((x / z : Nat) : Int) from rfl]
  generalize x / z = d at *
  rw [IntKind.wrap_u64]; omega
theorem bitL_mul (x y z : Nat) (hx : x < 2) (hz : z ≤ 9223372036854775808) (hy : y < z) : ∃ p r : Nat, IntKind.u64.wrap ((x : Int) * (z : Int)) = (p : Int) ∧ IntKind.u64.wrap ((y : Int) + (p : Int)) = (r : Int) ∧ r = y + x * z := by
  have h := Nat.mul_le_mul_right z (show x ≤ 1 by omega)
  refine ⟨x * z, y + x * z, ?_, ?_, rfl⟩
  · rw [← Int.natCast_mul, IntKind.wrap_u64]; omega
  · rw [IntKind.wrap_u64]; omega
end Go.Proofs.YtheamlhhfkaknaaGreatDoor
end
section
namespace Go.Proofs.YtheamlhhfkaknaaGreatDoor
open Go.RowKit
set_option linter.unusedVariables false
set_option linter.unusedSimpArgs false
theorem pow_le63 (k : Nat) (h : k < 64) : 2 ^ k ≤ 9223372036854775808 := by
  have e : (9223372036854775808 : Nat) = 2 ^ 63 := by decide
  rw [e]; exact Nat.pow_le_pow_right (by omega) (by omega)
set_option maxRecDepth 100000 in
set_option maxHeartbeats 4000000 in
theorem bits3_loop {Q : Exit → Act → World → Prop} (gq cq va vb vc ve vf vg : Nat) (wq : World) (t0 t1 t2 t3 t4 t5 t6 t7 t8 t9 t10 t11 t12 t13 t14 t15 t16 t17 t18 t19 t21 t26 t27 t28 t29 t30 t31 t32 t33 t34 t35 t36 t37 t38 t39 t40 t41 t42 t43 t44 t45 t46 t47 t48 t49 t50 t51 t52 t53 t54 t55 t56 t57 t58 t59 t60 t61 t62 t63 t64 t65 t66 t67 t68 t69 t70 t71 t72 t73 t74 t75 t76 t77 t78 t79 t80 t81 t82 t83 t84 t85 t86 t87 t88 t89 t90 t91 t92 t93 t94 t95 t96 t97 t98 t99 t100 t101 t102 t103 t104 t105 t106 t107 t108 t109 t110 t111 t112 t113 t114 t115 t116 t117 t118 t119 t120 t121 t122 t123 t124 t125 t126 t127 t128 t129 t130 t131 t132 t133 t134 t135 t136 t137 t138 t139 t140 t141 t142 t143 t144 t145 t146 t147 t148 t149 t150 t151 t152 t153 t154 t155 t156 t157 t158 t159 t160 t161 t162 t163 t164 t165 t166 t167 t168 t169 t170 t171 t172 t173 t174 t175 t176 t177 t178 t179 t180 t181 t182 t183 t184 t185 t186 t187 t188 t189 t190 t191 t192 t193 t194 t195 t196 t197 t198 t199 t200 t201 t202 t203 t204 t205 t206 t207 t208 t209 t210 t211 t212 t213 t214 t215 t216 t217 t218 t219 t220 t221 t222 t223 t224 t225 t226 t227 t228 t229 t230 t231 t232 t233 t234 t235 t236 t237 t238 t239 t240 t241 t242 t243 t244 t245 t246 t247 t248 t249 t250 t251 t252 t253 t254 t255 t256 t257 t258 t259 t260 t261 t262 t263 t264 t265 t266 t267 t268 t269 t270 t271 t272 t273 t274 t275 t276 t277 t278 t279 t280 t281 t282 t283 t284 t285 t286 t287 t288 t289 t290 t291 t292 t293 t294 t295 t296 t297 t298 t299 t300 t301 t302 t303 t304 t305 t306 t307 t308 t309 t310 t311 t312 t313 t314 t315 t316 t317 t318 t319 t320 t321 t322 t323 t324 t325 t326 t327 t328 t329 t330 t331 t332 t333 t334 t335 t336 t337 t338 t339 t340 t341 t342 t343 t344 t345 t346 t347 t348 t349 t350 t351 t352 t353 : Value)
    (hcq1 : 8 ≤ cq) (h1 : va < 18446744073709551616) (h2 : vb < 18446744073709551616) (h3 : vc < 18446744073709551616) (h5 : ve < 18446744073709551616) (h6 : vf < 18446744073709551616) (h7 : vg < 18446744073709551616)
    (hc0 : wq.cell? ⟨gq, 0, none⟩ = some (.int .u64 (va : Int))) (hc1 : wq.cell? ⟨gq, 1, none⟩ = some (.int .u64 (vb : Int))) (hc2 : wq.cell? ⟨gq, 2, none⟩ = some (.int .u64 (vc : Int)))
    (hc4 : wq.cell? ⟨gq, 4, none⟩ = some (.int .u64 (ve : Int))) (hc5 : wq.cell? ⟨gq, 5, none⟩ = some (.int .u64 (vf : Int))) (hc6 : wq.cell? ⟨gq, 6, none⟩ = some (.int .u64 (vg : Int)))
    (hexit : ∀ (n : Nat) (u24 u25 u26 u189 u190 u191 u192 u193 u194 u195 u196 u197 u198 u199 u200 u201 u202 u203 u204 u205 u206 u207 u208 u209 u210 u211 u212 u213 u214 u215 u216 u217 u218 u219 u220 u221 u222 u223 u224 u225 u226 u227 u228 u229 u230 u231 u232 u233 u234 u235 u236 u237 u238 u239 : Value), Q (.exit 18) ⟨(t0 :: t1 :: t2 :: t3 :: t4 :: t5 :: t6 :: t7 :: t8 :: t9 :: t10 :: t11 :: t12 :: t13 :: t14 :: t15 :: t16 :: t17 :: t18 :: t19 :: (.slice (some ⟨gq, 0, none⟩) 8 cq) :: t21 :: (.int .u64 ((chL ve vf vg : Nat) : Int)) :: (.int .u64 ((majL va vb vc : Nat) : Int)) :: u24 :: u25 :: u26 :: t27 :: t28 :: t29 :: t30 :: t31 :: t32 :: t33 :: t34 :: t35 :: t36 :: t37 :: t38 :: t39 :: t40 :: t41 :: t42 :: t43 :: t44 :: t45 :: t46 :: t47 :: t48 :: t49 :: t50 :: t51 :: t52 :: t53 :: t54 :: t55 :: t56 :: t57 :: t58 :: t59 :: t60 :: t61 :: t62 :: t63 :: t64 :: t65 :: t66 :: t67 :: t68 :: t69 :: t70 :: t71 :: t72 :: t73 :: t74 :: t75 :: t76 :: t77 :: t78 :: t79 :: t80 :: t81 :: t82 :: t83 :: t84 :: t85 :: t86 :: t87 :: t88 :: t89 :: t90 :: t91 :: t92 :: t93 :: t94 :: t95 :: t96 :: t97 :: t98 :: t99 :: t100 :: t101 :: t102 :: t103 :: t104 :: t105 :: t106 :: t107 :: t108 :: t109 :: t110 :: t111 :: t112 :: t113 :: t114 :: t115 :: t116 :: t117 :: t118 :: t119 :: t120 :: t121 :: t122 :: t123 :: t124 :: t125 :: t126 :: t127 :: t128 :: t129 :: t130 :: t131 :: t132 :: t133 :: t134 :: t135 :: t136 :: t137 :: t138 :: t139 :: t140 :: t141 :: t142 :: t143 :: t144 :: t145 :: t146 :: t147 :: t148 :: t149 :: t150 :: t151 :: t152 :: t153 :: t154 :: t155 :: t156 :: t157 :: t158 :: t159 :: t160 :: t161 :: t162 :: t163 :: t164 :: t165 :: t166 :: t167 :: t168 :: t169 :: t170 :: t171 :: t172 :: t173 :: t174 :: t175 :: t176 :: t177 :: t178 :: t179 :: t180 :: t181 :: t182 :: t183 :: t184 :: t185 :: t186 :: t187 :: t188 :: u189 :: u190 :: u191 :: u192 :: u193 :: u194 :: u195 :: u196 :: u197 :: u198 :: u199 :: u200 :: u201 :: u202 :: u203 :: u204 :: u205 :: u206 :: u207 :: u208 :: u209 :: u210 :: u211 :: u212 :: u213 :: u214 :: u215 :: u216 :: u217 :: u218 :: u219 :: u220 :: u221 :: u222 :: u223 :: u224 :: u225 :: u226 :: u227 :: u228 :: u229 :: u230 :: u231 :: u232 :: u233 :: u234 :: u235 :: u236 :: u237 :: u238 :: u239 :: t240 :: t241 :: t242 :: t243 :: t244 :: t245 :: t246 :: t247 :: t248 :: t249 :: t250 :: t251 :: t252 :: t253 :: t254 :: t255 :: t256 :: t257 :: t258 :: t259 :: t260 :: t261 :: t262 :: t263 :: t264 :: t265 :: t266 :: t267 :: t268 :: t269 :: t270 :: t271 :: t272 :: t273 :: t274 :: t275 :: t276 :: t277 :: t278 :: t279 :: t280 :: t281 :: t282 :: t283 :: t284 :: t285 :: t286 :: t287 :: t288 :: t289 :: t290 :: t291 :: t292 :: t293 :: t294 :: t295 :: t296 :: t297 :: t298 :: t299 :: t300 :: t301 :: t302 :: t303 :: t304 :: t305 :: t306 :: t307 :: t308 :: t309 :: t310 :: t311 :: t312 :: t313 :: t314 :: t315 :: t316 :: t317 :: t318 :: t319 :: t320 :: t321 :: t322 :: t323 :: t324 :: t325 :: t326 :: t327 :: t328 :: t329 :: t330 :: t331 :: t332 :: t333 :: t334 :: t335 :: t336 :: t337 :: t338 :: t339 :: t340 :: t341 :: t342 :: t343 :: t344 :: t345 :: t346 :: t347 :: t348 :: t349 :: t350 :: t351 :: t352 :: t353 :: []).toArray, []⟩ (wq.drewN n)) :
    Code.wp Tryz.prog (Code.loop (loopN Tryz.f33 9)) Q ⟨(t0 :: t1 :: t2 :: t3 :: t4 :: t5 :: t6 :: t7 :: t8 :: t9 :: t10 :: t11 :: t12 :: t13 :: t14 :: t15 :: t16 :: t17 :: t18 :: t19 :: (.slice (some ⟨gq, 0, none⟩) 8 cq) :: t21 :: (.int .u64 0) :: (.int .u64 0) :: (.int .u64 1) :: (.int .i64 0) :: t26 :: t27 :: t28 :: t29 :: t30 :: t31 :: t32 :: t33 :: t34 :: t35 :: t36 :: t37 :: t38 :: t39 :: t40 :: t41 :: t42 :: t43 :: t44 :: t45 :: t46 :: t47 :: t48 :: t49 :: t50 :: t51 :: t52 :: t53 :: t54 :: t55 :: t56 :: t57 :: t58 :: t59 :: t60 :: t61 :: t62 :: t63 :: t64 :: t65 :: t66 :: t67 :: t68 :: t69 :: t70 :: t71 :: t72 :: t73 :: t74 :: t75 :: t76 :: t77 :: t78 :: t79 :: t80 :: t81 :: t82 :: t83 :: t84 :: t85 :: t86 :: t87 :: t88 :: t89 :: t90 :: t91 :: t92 :: t93 :: t94 :: t95 :: t96 :: t97 :: t98 :: t99 :: t100 :: t101 :: t102 :: t103 :: t104 :: t105 :: t106 :: t107 :: t108 :: t109 :: t110 :: t111 :: t112 :: t113 :: t114 :: t115 :: t116 :: t117 :: t118 :: t119 :: t120 :: t121 :: t122 :: t123 :: t124 :: t125 :: t126 :: t127 :: t128 :: t129 :: t130 :: t131 :: t132 :: t133 :: t134 :: t135 :: t136 :: t137 :: t138 :: t139 :: t140 :: t141 :: t142 :: t143 :: t144 :: t145 :: t146 :: t147 :: t148 :: t149 :: t150 :: t151 :: t152 :: t153 :: t154 :: t155 :: t156 :: t157 :: t158 :: t159 :: t160 :: t161 :: t162 :: t163 :: t164 :: t165 :: t166 :: t167 :: t168 :: t169 :: t170 :: t171 :: t172 :: t173 :: t174 :: t175 :: t176 :: t177 :: t178 :: t179 :: t180 :: t181 :: t182 :: t183 :: t184 :: t185 :: t186 :: t187 :: t188 :: t189 :: t190 :: t191 :: t192 :: t193 :: t194 :: t195 :: t196 :: t197 :: t198 :: t199 :: t200 :: t201 :: t202 :: t203 :: t204 :: t205 :: t206 :: t207 :: t208 :: t209 :: t210 :: t211 :: t212 :: t213 :: t214 :: t215 :: t216 :: t217 :: t218 :: t219 :: t220 :: t221 :: t222 :: t223 :: t224 :: t225 :: t226 :: t227 :: t228 :: t229 :: t230 :: t231 :: t232 :: t233 :: t234 :: t235 :: t236 :: t237 :: t238 :: t239 :: t240 :: t241 :: t242 :: t243 :: t244 :: t245 :: t246 :: t247 :: t248 :: t249 :: t250 :: t251 :: t252 :: t253 :: t254 :: t255 :: t256 :: t257 :: t258 :: t259 :: t260 :: t261 :: t262 :: t263 :: t264 :: t265 :: t266 :: t267 :: t268 :: t269 :: t270 :: t271 :: t272 :: t273 :: t274 :: t275 :: t276 :: t277 :: t278 :: t279 :: t280 :: t281 :: t282 :: t283 :: t284 :: t285 :: t286 :: t287 :: t288 :: t289 :: t290 :: t291 :: t292 :: t293 :: t294 :: t295 :: t296 :: t297 :: t298 :: t299 :: t300 :: t301 :: t302 :: t303 :: t304 :: t305 :: t306 :: t307 :: t308 :: t309 :: t310 :: t311 :: t312 :: t313 :: t314 :: t315 :: t316 :: t317 :: t318 :: t319 :: t320 :: t321 :: t322 :: t323 :: t324 :: t325 :: t326 :: t327 :: t328 :: t329 :: t330 :: t331 :: t332 :: t333 :: t334 :: t335 :: t336 :: t337 :: t338 :: t339 :: t340 :: t341 :: t342 :: t343 :: t344 :: t345 :: t346 :: t347 :: t348 :: t349 :: t350 :: t351 :: t352 :: t353 :: []).toArray, []⟩ wq := by
  conv => arg 2; arg 1; whnf
  have H1 := hid h1; have H2 := hid h2; have H3 := hid h3; have H5 := hid h5; have H6 := hid h6; have H7 := hid h7
  clear h1 h2 h3 h5 h6 h7
  go_loopg [22, 23, 24, 25] 64 (fun g x y z i wr => ∃ (k X Y Z : Nat), k + g = 64 ∧ i = .int .i64 (k : Int) ∧ x = .int .u64 (X : Int) ∧ y = .int .u64 (Y : Int) ∧ z = .int .u64 (Z : Int) ∧ X = chL ve vf vg % 2 ^ k ∧ Y = majL va vb vc % 2 ^ k ∧ Z = 2 ^ k % 2 ^ 64 ∧ ∃ n, wr = wq.drewN n)
  case atStart => exact ⟨0, 0, 0, 1, rfl, rfl, rfl, rfl, rfl, by rw [Nat.pow_zero, Nat.mod_one], by rw [Nat.pow_zero, Nat.mod_one], by decide, 0, rfl⟩
  case round =>
    obtain ⟨k, X, Y, Z, hk, rfl, rfl, rfl, rfl, hX, hY, hZ, hw⟩ := hrel
    have hcell : ∀ p, wr.cell? p = wq.cell? p := by obtain ⟨n, rfl⟩ := hw; exact fun p => rfl
    rw [← hcell] at hc0 hc1 hc2 hc4 hc5 hc6
    have HW := hid hw
    clear hw hcell
    by_cases hk32 : k < 64
    · have hki : (k : Int) < 64 := by omega
      have hk0 : (0 : Int) ≤ (k : Int) := by omega
      rw [Nat.mod_eq_of_lt (Nat.pow_lt_pow_right (by omega) hk32)] at hZ
      have hZl : Z ≤ 9223372036854775808 := by rw [hZ]; exact pow_le63 k hk32
      have hZp : 0 < Z := by rw [hZ]; exact Nat.two_pow_pos k
      have hXl : X < Z := by rw [hX, hZ]; exact Nat.mod_lt _ (Nat.two_pow_pos k)
      have hYl : Y < Z := by rw [hY, hZ]; exact Nat.mod_lt _ (Nat.two_pow_pos k)
      have hzi : (1 : Int) ≤ (Z : Int) := by omega
      obtain ⟨e1, e2, be1, be2, be, bel⟩ := bitL_q ve Z H5.out
      obtain ⟨f1, f2, bf1, bf2, bf, bfl⟩ := bitL_q vf Z H6.out
      obtain ⟨g1, g2, bg1, bg2, bg, bgl⟩ := bitL_q vg Z H7.out
      obtain ⟨a1, a2, ba1, ba2, ba, bal⟩ := bitL_q va Z H1.out
      obtain ⟨b1, b2, bb1, bb2, bb, bbl⟩ := bitL_q vb Z H2.out
      obtain ⟨d1, d2, bd1, bd2, bd, bdl⟩ := bitL_q vc Z H3.out
      have hch : chL ve vf vg % 2 ^ (k + 1) = X + (if e2 = 1 then f2 else g2) * Z := by rw [mod_bit, chL_bit _ _ _ _ H5.out hk32, ← hX, ← hZ, ← be, ← bf, ← bg]
      have hmj : majL va vb vc % 2 ^ (k + 1) = Y + (if 2 ≤ a2 + b2 + d2 then 1 else 0) * Z := by rw [mod_bit, majL_bit, ← hY, ← hZ, ← ba, ← bb, ← bd]
      obtain ⟨pf, rf, mf1, mf2, mf⟩ := bitL_mul f2 X Z bfl hZl hXl
      obtain ⟨pg, rg, mg1, mg2, mg⟩ := bitL_mul g2 X Z bgl hZl hXl
      obtain ⟨Z2, hZ2⟩ : ∃ z, z = 2 * Z % 18446744073709551616 := ⟨_, rfl⟩
      have hZw : IntKind.u64.wrap (2 * (Z : Int)) = (Z2 : Int) := by rw [IntKind.wrap_u64]; omega
      obtain ⟨Y2, hY2⟩ : ∃ y, y = Y + Z := ⟨_, rfl⟩
      have hYw : IntKind.u64.wrap ((Y : Int) + (Z : Int)) = (Y2 : Int) := by rw [IntKind.wrap_u64]; omega
      obtain ⟨n1, hn1⟩ : ∃ n, n = a2 + b2 := ⟨_, rfl⟩
      obtain ⟨n2, hn2⟩ : ∃ n, n = n1 + d2 := ⟨_, rfl⟩
      have nw1 : IntKind.u64.wrap ((a2 : Int) + (b2 : Int)) = (n1 : Int) := by rw [IntKind.wrap_u64]; omega
      have nw2 : IntKind.u64.wrap ((n1 : Int) + (d2 : Int)) = (n2 : Int) := by rw [IntKind.wrap_u64]; omega
      rw [← hn1, ← hn2] at hmj
      have hzz : Z2 = 2 ^ (k + 1) % 2 ^ 64 := by rw [hZ2, hZ, Nat.pow_succ, Nat.mul_comm]
      have HCH := hid hch; have HMJ := hid hmj; have HZZ := hid hzz; have HKK := hid hk; have HMF := hid mf; have HMG := hid mg; have HY2 := hid hY2
      clear hX hY hZ hXl hYl hZl hch hmj be bf bg ba bb bd hZ2 hn1 hn2 hzz hk mf mg hY2
      have hm : n2 < 2 ∨ 2 ≤ n2 := by omega
      clear hexit
      rcases (by omega : e2 = 0 ∨ e2 = 1) with rfl | rfl
      · replace be2 : Int.tmod (e1 : Int) 2 = 0 := be2
        rcases hm with hm | hm
        · have hmi : (n2 : Int) < 2 := by omega
          go_wp2
          go_quiet (fail)
          go_wp2
          have hk := HKK.out
          go_roundg (64 - k - 1)
          case measure => omega
          case rel => exact ⟨k + 1, rg, Y, Z2, by omega, by go_num, rfl, rfl, rfl, by rw [HCH.out, HMG.out]; rfl, by rw [HMJ.out]; simp [Nat.not_le.2 hm], HZZ.out, by obtain ⟨n, hn⟩ := HW.out; exact ⟨_, by rw [hn, World.drewN_drewN]⟩⟩
        · have hmi : (2 : Int) ≤ (n2 : Int) := by omega
          go_wp2
          go_quiet (fail)
          go_wp2
          have hk := HKK.out
          go_roundg (64 - k - 1)
          case measure => omega
          case rel => exact ⟨k + 1, rg, Y2, Z2, by omega, by go_num, rfl, rfl, rfl, by rw [HCH.out, HMG.out]; rfl, by rw [HMJ.out, HY2.out]; simp [hm], HZZ.out, by obtain ⟨n, hn⟩ := HW.out; exact ⟨_, by rw [hn, World.drewN_drewN]⟩⟩
      · replace be2 : Int.tmod (e1 : Int) 2 = 1 := be2
        rcases hm with hm | hm
        · have hmi : (n2 : Int) < 2 := by omega
          go_wp2
          go_quiet (fail)
          go_wp2
          have hk := HKK.out
          go_roundg (64 - k - 1)
          case measure => omega
          case rel => exact ⟨k + 1, rf, Y, Z2, by omega, by go_num, rfl, rfl, rfl, by rw [HCH.out, HMF.out]; rfl, by rw [HMJ.out]; simp [Nat.not_le.2 hm], HZZ.out, by obtain ⟨n, hn⟩ := HW.out; exact ⟨_, by rw [hn, World.drewN_drewN]⟩⟩
        · have hmi : (2 : Int) ≤ (n2 : Int) := by omega
          go_wp2
          go_quiet (fail)
          go_wp2
          have hk := HKK.out
          go_roundg (64 - k - 1)
          case measure => omega
          case rel => exact ⟨k + 1, rf, Y2, Z2, by omega, by go_num, rfl, rfl, rfl, by rw [HCH.out, HMF.out]; rfl, by rw [HMJ.out, HY2.out]; simp [hm], HZZ.out, by obtain ⟨n, hn⟩ := HW.out; exact ⟨_, by rw [hn, World.drewN_drewN]⟩⟩
    · obtain rfl : k = 64 := by omega
      have hki : ¬ ((64 : Nat) : Int) < 64 := by omega
      have hXe : X = chL ve vf vg := by rw [hX]; exact Nat.mod_eq_of_lt (chL_lt _ _ _ H5.out H6.out H7.out)
      have hYe : Y = majL va vb vc := by rw [hY]; exact Nat.mod_eq_of_lt (majL_lt _ _ _ H2.out H3.out)
      obtain ⟨n, hn⟩ := HW.out
      subst hXe; subst hYe; subst hn
      clear hX hY hZ HW hc0 hc1 hc2 hc4 hc5 hc6
      go_wp2
      exact hexit n _ _ _ _ _ _ _ _ _ _ _ _ _ _ _ _ _ _ _ _ _ _ _ _ _ _ _ _ _ _ _ _ _ _ _ _ _ _ _ _ _ _ _ _ _ _ _ _ _ _ _ _ _ _
end Go.Proofs.YtheamlhhfkaknaaGreatDoor
end
section
namespace Go.Proofs.YtheamlhhfkaknaaGreatDoor
open Go.RowKit
set_option linter.unusedVariables false
set_option linter.unusedSimpArgs false
set_option maxRecDepth 100000 in
set_option maxHeartbeats 4000000 in
theorem rounds3_loop {Q : Exit → Act → World → Prop} (A2 : Option Addr) (c2 g6 c6 gv cv : Nat) (K xs : List Nat) (v0 : St8) (wt w6 : World) (t0 t1 t2 t3 t4 t5 t6 t7 t8 t9 t11 t12 t13 t15 t16 t17 t18 t19 t22 t23 t24 t25 t26 t27 t28 t29 t30 t31 t32 t33 t34 t35 t36 t37 t38 t39 t40 t41 t42 t43 t44 t45 t46 t47 t48 t49 t50 t51 t52 t53 t54 t55 t56 t57 t58 t59 t60 t61 t62 t63 t64 t65 t66 t67 t68 t69 t70 t71 t72 t73 t74 t75 t76 t77 t78 t79 t80 t81 t82 t83 t84 t85 t86 t87 t88 t89 t90 t91 t92 t93 t94 t95 t96 t97 t98 t99 t100 t101 t102 t103 t104 t105 t106 t107 t108 t109 t110 t111 t112 t113 t114 t115 t116 t117 t118 t119 t120 t121 t122 t123 t124 t125 t126 t127 t128 t129 t130 t131 t132 t133 t134 t135 t136 t137 t138 t139 t140 t141 t142 t143 t144 t145 t146 t147 t148 t149 t150 t151 t152 t153 t154 t155 t156 t157 t158 t159 t160 t161 t162 t163 t164 t165 t166 t167 t168 t169 t170 t171 t172 t173 t174 t175 t176 t177 t178 t179 t180 t181 t182 t183 t184 t185 t186 t187 t188 t189 t190 t191 t192 t193 t194 t195 t196 t197 t198 t199 t200 t201 t202 t203 t204 t205 t206 t207 t208 t209 t210 t211 t212 t213 t214 t215 t216 t217 t218 t219 t220 t221 t222 t223 t224 t225 t226 t227 t228 t229 t230 t231 t232 t233 t234 t235 t236 t237 t238 t239 t240 t241 t242 t243 t244 t245 t246 t247 t248 t249 t250 t251 t252 t253 t254 t255 t256 t257 t258 t259 t260 t261 t262 t263 t264 t265 t266 t267 t268 t269 t270 t271 t272 t273 t274 t275 t276 t277 t278 t279 t280 t281 t282 t283 t284 t285 t286 t287 t288 t289 t290 t291 t292 t293 t294 t295 t296 t297 t298 t299 t300 t301 t302 t303 t304 t305 t306 t307 t308 t309 t310 t311 t312 t313 t314 t315 t316 t317 t318 t319 t320 t321 t322 t323 t324 t325 t326 t327 t328 t329 t330 t331 t332 t333 t334 t335 t336 t337 t338 t339 t340 t341 t342 t343 t344 t345 t346 t347 t348 t349 t350 t351 t352 t353 : Value)
    (hxl : xs.length = 80) (hKl : K.length = 80) (hvo : v0.okL) (hKm : ∀ k, K.getD k 0 < 18446744073709551616) (hXm : ∀ k, xs.getD k 0 < 18446744073709551616)
    (hcv : 8 ≤ cv) (hcv2 : cv ≤ 9223372036854775807) (hru : RowU w6 gv v0.list) (hgv : wt.heap.size ≤ gv) (hb : Below wt.heap.size wt w6)
    (hks : Sq wt wt.heap.size A2 c2 (uvs K)) (hxs : Lie wt wt.heap.size (some ⟨g6, 0, none⟩) (uvs xs)) (hc6 : 80 ≤ c6)
    (hexit : ∀ (gq cq : Nat) (w' : World) (u21 u22 u23 u24 u25 u26 u27 u28 u185 u186 u187 u188 u189 u190 u191 u192 u193 u194 u195 u196 u197 u198 u199 u200 u201 u202 u203 u204 u205 u206 u207 u208 u209 u210 u211 u212 u213 u214 u215 u216 u217 u218 u219 u220 u221 u222 u223 u224 u225 u226 u227 u228 u229 u230 u231 u232 u233 u234 u235 u236 u237 u238 u239 u240 u241 u242 u243 u244 u245 u246 u247 u248 u249 u250 u251 u252 u253 u254 u255 u256 u257 u258 u259 u260 u261 u262 u263 u264 u265 u266 u267 u268 u269 u270 u271 u272 u273 u274 u275 u276 u277 u278 u279 u280 u281 u282 u283 u284 u285 u286 u287 u288 u289 u290 u291 u292 u293 u294 u295 u296 u297 u298 u299 u300 u301 u302 u303 u304 u305 u306 u307 u308 u309 u310 u311 u312 : Value), RowU w' gq (rndL K xs v0 80).list → wt.heap.size ≤ gq → 8 ≤ cq → cq ≤ 9223372036854775807 → Below wt.heap.size wt w' → Q (.exit 16) ⟨(t0 :: t1 :: t2 :: t3 :: t4 :: t5 :: t6 :: t7 :: t8 :: t9 :: (.slice A2 80 c2) :: t11 :: t12 :: t13 :: (.slice (some ⟨g6, 0, none⟩) 80 c6) :: t15 :: t16 :: t17 :: t18 :: t19 :: (.slice (some ⟨gq, 0, none⟩) 8 cq) :: u21 :: u22 :: u23 :: u24 :: u25 :: u26 :: u27 :: u28 :: t29 :: t30 :: t31 :: t32 :: t33 :: t34 :: t35 :: t36 :: t37 :: t38 :: t39 :: t40 :: t41 :: t42 :: t43 :: t44 :: t45 :: t46 :: t47 :: t48 :: t49 :: t50 :: t51 :: t52 :: t53 :: t54 :: t55 :: t56 :: t57 :: t58 :: t59 :: t60 :: t61 :: t62 :: t63 :: t64 :: t65 :: t66 :: t67 :: t68 :: t69 :: t70 :: t71 :: t72 :: t73 :: t74 :: t75 :: t76 :: t77 :: t78 :: t79 :: t80 :: t81 :: t82 :: t83 :: t84 :: t85 :: t86 :: t87 :: t88 :: t89 :: t90 :: t91 :: t92 :: t93 :: t94 :: t95 :: t96 :: t97 :: t98 :: t99 :: t100 :: t101 :: t102 :: t103 :: t104 :: t105 :: t106 :: t107 :: t108 :: t109 :: t110 :: t111 :: t112 :: t113 :: t114 :: t115 :: t116 :: t117 :: t118 :: t119 :: t120 :: t121 :: t122 :: t123 :: t124 :: t125 :: t126 :: t127 :: t128 :: t129 :: t130 :: t131 :: t132 :: t133 :: t134 :: t135 :: t136 :: t137 :: t138 :: t139 :: t140 :: t141 :: t142 :: t143 :: t144 :: t145 :: t146 :: t147 :: t148 :: t149 :: t150 :: t151 :: t152 :: t153 :: t154 :: t155 :: t156 :: t157 :: t158 :: t159 :: t160 :: t161 :: t162 :: t163 :: t164 :: t165 :: t166 :: t167 :: t168 :: t169 :: t170 :: t171 :: t172 :: t173 :: t174 :: t175 :: t176 :: t177 :: t178 :: t179 :: t180 :: t181 :: t182 :: t183 :: t184 :: u185 :: u186 :: u187 :: u188 :: u189 :: u190 :: u191 :: u192 :: u193 :: u194 :: u195 :: u196 :: u197 :: u198 :: u199 :: u200 :: u201 :: u202 :: u203 :: u204 :: u205 :: u206 :: u207 :: u208 :: u209 :: u210 :: u211 :: u212 :: u213 :: u214 :: u215 :: u216 :: u217 :: u218 :: u219 :: u220 :: u221 :: u222 :: u223 :: u224 :: u225 :: u226 :: u227 :: u228 :: u229 :: u230 :: u231 :: u232 :: u233 :: u234 :: u235 :: u236 :: u237 :: u238 :: u239 :: u240 :: u241 :: u242 :: u243 :: u244 :: u245 :: u246 :: u247 :: u248 :: u249 :: u250 :: u251 :: u252 :: u253 :: u254 :: u255 :: u256 :: u257 :: u258 :: u259 :: u260 :: u261 :: u262 :: u263 :: u264 :: u265 :: u266 :: u267 :: u268 :: u269 :: u270 :: u271 :: u272 :: u273 :: u274 :: u275 :: u276 :: u277 :: u278 :: u279 :: u280 :: u281 :: u282 :: u283 :: u284 :: u285 :: u286 :: u287 :: u288 :: u289 :: u290 :: u291 :: u292 :: u293 :: u294 :: u295 :: u296 :: u297 :: u298 :: u299 :: u300 :: u301 :: u302 :: u303 :: u304 :: u305 :: u306 :: u307 :: u308 :: u309 :: u310 :: u311 :: u312 :: t313 :: t314 :: t315 :: t316 :: t317 :: t318 :: t319 :: t320 :: t321 :: t322 :: t323 :: t324 :: t325 :: t326 :: t327 :: t328 :: t329 :: t330 :: t331 :: t332 :: t333 :: t334 :: t335 :: t336 :: t337 :: t338 :: t339 :: t340 :: t341 :: t342 :: t343 :: t344 :: t345 :: t346 :: t347 :: t348 :: t349 :: t350 :: t351 :: t352 :: t353 :: []).toArray, []⟩ w') :
    Code.wp Tryz.prog (Code.loop (loopN Tryz.f33 8)) Q ⟨(t0 :: t1 :: t2 :: t3 :: t4 :: t5 :: t6 :: t7 :: t8 :: t9 :: (.slice A2 80 c2) :: t11 :: t12 :: t13 :: (.slice (some ⟨g6, 0, none⟩) 80 c6) :: t15 :: t16 :: t17 :: t18 :: t19 :: (.slice (some ⟨gv, 0, none⟩) 8 cv) :: (.int .i64 0) :: t22 :: t23 :: t24 :: t25 :: t26 :: t27 :: t28 :: t29 :: t30 :: t31 :: t32 :: t33 :: t34 :: t35 :: t36 :: t37 :: t38 :: t39 :: t40 :: t41 :: t42 :: t43 :: t44 :: t45 :: t46 :: t47 :: t48 :: t49 :: t50 :: t51 :: t52 :: t53 :: t54 :: t55 :: t56 :: t57 :: t58 :: t59 :: t60 :: t61 :: t62 :: t63 :: t64 :: t65 :: t66 :: t67 :: t68 :: t69 :: t70 :: t71 :: t72 :: t73 :: t74 :: t75 :: t76 :: t77 :: t78 :: t79 :: t80 :: t81 :: t82 :: t83 :: t84 :: t85 :: t86 :: t87 :: t88 :: t89 :: t90 :: t91 :: t92 :: t93 :: t94 :: t95 :: t96 :: t97 :: t98 :: t99 :: t100 :: t101 :: t102 :: t103 :: t104 :: t105 :: t106 :: t107 :: t108 :: t109 :: t110 :: t111 :: t112 :: t113 :: t114 :: t115 :: t116 :: t117 :: t118 :: t119 :: t120 :: t121 :: t122 :: t123 :: t124 :: t125 :: t126 :: t127 :: t128 :: t129 :: t130 :: t131 :: t132 :: t133 :: t134 :: t135 :: t136 :: t137 :: t138 :: t139 :: t140 :: t141 :: t142 :: t143 :: t144 :: t145 :: t146 :: t147 :: t148 :: t149 :: t150 :: t151 :: t152 :: t153 :: t154 :: t155 :: t156 :: t157 :: t158 :: t159 :: t160 :: t161 :: t162 :: t163 :: t164 :: t165 :: t166 :: t167 :: t168 :: t169 :: t170 :: t171 :: t172 :: t173 :: t174 :: t175 :: t176 :: t177 :: t178 :: t179 :: t180 :: t181 :: t182 :: t183 :: t184 :: t185 :: t186 :: t187 :: t188 :: t189 :: t190 :: t191 :: t192 :: t193 :: t194 :: t195 :: t196 :: t197 :: t198 :: t199 :: t200 :: t201 :: t202 :: t203 :: t204 :: t205 :: t206 :: t207 :: t208 :: t209 :: t210 :: t211 :: t212 :: t213 :: t214 :: t215 :: t216 :: t217 :: t218 :: t219 :: t220 :: t221 :: t222 :: t223 :: t224 :: t225 :: t226 :: t227 :: t228 :: t229 :: t230 :: t231 :: t232 :: t233 :: t234 :: t235 :: t236 :: t237 :: t238 :: t239 :: t240 :: t241 :: t242 :: t243 :: t244 :: t245 :: t246 :: t247 :: t248 :: t249 :: t250 :: t251 :: t252 :: t253 :: t254 :: t255 :: t256 :: t257 :: t258 :: t259 :: t260 :: t261 :: t262 :: t263 :: t264 :: t265 :: t266 :: t267 :: t268 :: t269 :: t270 :: t271 :: t272 :: t273 :: t274 :: t275 :: t276 :: t277 :: t278 :: t279 :: t280 :: t281 :: t282 :: t283 :: t284 :: t285 :: t286 :: t287 :: t288 :: t289 :: t290 :: t291 :: t292 :: t293 :: t294 :: t295 :: t296 :: t297 :: t298 :: t299 :: t300 :: t301 :: t302 :: t303 :: t304 :: t305 :: t306 :: t307 :: t308 :: t309 :: t310 :: t311 :: t312 :: t313 :: t314 :: t315 :: t316 :: t317 :: t318 :: t319 :: t320 :: t321 :: t322 :: t323 :: t324 :: t325 :: t326 :: t327 :: t328 :: t329 :: t330 :: t331 :: t332 :: t333 :: t334 :: t335 :: t336 :: t337 :: t338 :: t339 :: t340 :: t341 :: t342 :: t343 :: t344 :: t345 :: t346 :: t347 :: t348 :: t349 :: t350 :: t351 :: t352 :: t353 :: []).toArray, []⟩ w6 := by
  conv => arg 2; arg 1; whnf
  have HXL := hid hxl; have HKL := hid hKl; have HVO := hid hvo; have HKM := hid hKm; have HXM := hid hXm; have HKS := hid hks; have HXS := hid hxs
  clear hxl hKl hvo hKm hXm hks hxs
  go_loopg [20, 21] 80 (fun g u i wr => ∃ (q gq cq : Nat), q + g = 80 ∧ i = .int .i64 (q : Int) ∧ u = .slice (some ⟨gq, 0, none⟩) 8 cq ∧ RowU wr gq (rndL K xs v0 q).list ∧ wt.heap.size ≤ gq ∧ 8 ≤ cq ∧ cq ≤ 9223372036854775807 ∧ Below wt.heap.size wt wr)
  case atStart => exact ⟨0, gv, cv, rfl, rfl, rfl, hru, hgv, hcv, hcv2, hb⟩
  case round =>
    clear hru hgv hb
    obtain ⟨q, gq, cq, hq, rfl, rfl, hru, hgq, hcq1, hcq2, hb⟩ := hrel
    obtain ⟨wq, rfl⟩ : ∃ wq : World, wq = wr := ⟨_, rfl⟩
    obtain ⟨v, hv⟩ : ∃ v, v = rndL K xs v0 q := ⟨_, rfl⟩
    rw [← hv] at hru
    have hvk : v.okL := by rw [hv]; exact rndL_ok _ _ _ HVO.out _
    obtain ⟨va, vb, vc, vd, ve, vf, vg, vh⟩ := v
    obtain ⟨h1, h2, h3, h4, h5, h6, h7, h8⟩ := hvk
    simp only at h1 h2 h3 h4 h5 h6 h7 h8
    have hc0 : wq.cell? ⟨gq, 0, none⟩ = some (.int .u64 (va : Int)) := hru.cell rfl
    have hc1 : wq.cell? ⟨gq, 1, none⟩ = some (.int .u64 (vb : Int)) := hru.cell rfl
    have hc2 : wq.cell? ⟨gq, 2, none⟩ = some (.int .u64 (vc : Int)) := hru.cell rfl
    have hc3 : wq.cell? ⟨gq, 3, none⟩ = some (.int .u64 (vd : Int)) := hru.cell rfl
    have hc4 : wq.cell? ⟨gq, 4, none⟩ = some (.int .u64 (ve : Int)) := hru.cell rfl
    have hc5 : wq.cell? ⟨gq, 5, none⟩ = some (.int .u64 (vf : Int)) := hru.cell rfl
    have hc6' : wq.cell? ⟨gq, 6, none⟩ = some (.int .u64 (vg : Int)) := hru.cell rfl
    have hc7 : wq.cell? ⟨gq, 7, none⟩ = some (.int .u64 (vh : Int)) := hru.cell rfl
    have HV := hid hv; have HQ := hid hq; have HRU := hid hru; have HB := hid hb
    have hq64 : q ≤ 80 := by omega
    clear hv hq hru hb
    by_cases hqq : q < 80
    · have hqi : (q : Int) < 80 := by omega
      have hq0 : (0 : Int) ≤ (q : Int) := by omega
      clear hexit
      have H0 := hid hc0; have H1 := hid hc1; have H2 := hid hc2; have H3 := hid hc3; have H4 := hid hc4; have H5 := hid hc5; have H6 := hid hc6'; have H7 := hid hc7
      clear hc0 hc1 hc2 hc3 hc4 hc5 hc6' hc7
      go_wp2
      refine bits3_loop gq cq va vb vc ve vf vg wq _ _ _ _ _ _ _ _ _ _ _ _ _ _ _ _ _ _ _ _ _ _ _ _ _ _ _ _ _ _ _ _ _ _ _ _ _ _ _ _ _ _ _ _ _ _ _ _ _ _ _ _ _ _ _ _ _ _ _ _ _ _ _ _ _ _ _ _ _ _ _ _ _ _ _ _ _ _ _ _ _ _ _ _ _ _ _ _ _ _ _ _ _ _ _ _ _ _ _ _ _ _ _ _ _ _ _ _ _ _ _ _ _ _ _ _ _ _ _ _ _ _ _ _ _ _ _ _ _ _ _ _ _ _ _ _ _ _ _ _ _ _ _ _ _ _ _ _ _ _ _ _ _ _ _ _ _ _ _ _ _ _ _ _ _ _ _ _ _ _ _ _ _ _ _ _ _ _ _ _ _ _ _ _ _ _ _ _ _ _ _ _ _ _ _ _ _ _ _ _ _ _ _ _ _ _ _ _ _ _ _ _ _ _ _ _ _ _ _ _ _ _ _ _ _ _ _ _ _ _ _ _ _ _ _ _ _ _ _ _ _ _ _ _ _ _ _ _ _ _ _ _ _ _ _ _ _ _ _ _ _ _ _ _ _ _ _ _ _ _ _ _ _ _ _ _ _ _ _ _ _ _ _ _ _ _ _ _ _ _ _ _ _ _ _ _ _ _ _ _ _ _ _ _ _ _ _ _ _ _ _ _ _ _ _ _ _ _ _ _ _ _ _ _ _ _ _ _ _ _ _ _ _ _ _ _ _ _ _ _ _ _ _ _ _ _ _ _ _ hcq1 h1 h2 h3 h5 h6 h7 H0.out H1.out H2.out H4.out H5.out H6.out ?_
      intro n u24 u25 u26 u189 u190 u191 u192 u193 u194 u195 u196 u197 u198 u199 u200 u201 u202 u203 u204 u205 u206 u207 u208 u209 u210 u211 u212 u213 u214 u215 u216 u217 u218 u219 u220 u221 u222 u223 u224 u225 u226 u227 u228 u229 u230 u231 u232 u233 u234 u235 u236 u237 u238 u239
      obtain ⟨kq, hkq⟩ : ∃ k, k = K.getD q 0 := ⟨_, rfl⟩
      obtain ⟨xq, hxq⟩ : ∃ k, k = xs.getD q 0 := ⟨_, rfl⟩
      have hkql : kq < 18446744073709551616 := by rw [hkq]; exact HKM.out q
      have hxql : xq < 18446744073709551616 := by rw [hxq]; exact HXM.out q
      obtain ⟨w7, hw7⟩ : ∃ w7, w7 = wq.drewN n := ⟨_, rfl⟩
      have hc0 : w7.cell? ⟨gq, 0, none⟩ = some (.int .u64 (va : Int)) := by rw [hw7]; exact H0.out
      have hc3 : w7.cell? ⟨gq, 3, none⟩ = some (.int .u64 (vd : Int)) := by rw [hw7]; exact H3.out
      have hc4 : w7.cell? ⟨gq, 4, none⟩ = some (.int .u64 (ve : Int)) := by rw [hw7]; exact H4.out
      have hc7 : w7.cell? ⟨gq, 7, none⟩ = some (.int .u64 (vh : Int)) := by rw [hw7]; exact H7.out
      have hB7 : Below wt.heap.size wt w7 := by rw [hw7]; exact below_drewN HB.out n
      obtain ⟨bk, ok, rfl, hbk, hck⟩ := uvs_get (HKS.out.below hB7) (k := q) (by rw [HKL.out]; exact hqq)
      rw [← hkq] at hck
      have hcx : w7.cell? ⟨g6, q, none⟩ = some (.int .u64 (xq : Int)) := by
        have h := word_cell (HXS.out.below hB7) (k := q) (by rw [HXL.out]; exact hqq)
        rw [Nat.zero_add, ← hxq] at h; exact h
      rw [← hw7]
      have HB7 := hid hB7; have HW7 := hid hw7; have HKQ := hid hkq; have HXQ := hid hxq
      clear hw7 hB7 hkq hxq
      obtain ⟨ch, hch⟩ : ∃ c, c = chL ve vf vg := ⟨_, rfl⟩
      obtain ⟨mj, hmj⟩ : ∃ c, c = majL va vb vc := ⟨_, rfl⟩
      have hchl : ch < 18446744073709551616 := by rw [hch]; exact chL_lt _ _ _ h5 h6 h7
      have hmjl : mj < 18446744073709551616 := by rw [hmj]; exact majL_lt _ _ _ h2 h3
      rw [← hch, ← hmj]
      obtain ⟨x6, hx6⟩ : ∃ a, a = rotrL ve 14 := ⟨_, rfl⟩
      obtain ⟨x11, hx11⟩ : ∃ a, a = rotrL ve 18 := ⟨_, rfl⟩
      obtain ⟨x25, hx25⟩ : ∃ a, a = rotrL ve 41 := ⟨_, rfl⟩
      obtain ⟨y2, hy2⟩ : ∃ a, a = rotrL va 28 := ⟨_, rfl⟩
      obtain ⟨y13, hy13⟩ : ∃ a, a = rotrL va 34 := ⟨_, rfl⟩
      obtain ⟨y22, hy22⟩ : ∃ a, a = rotrL va 39 := ⟨_, rfl⟩
      have HT6 := hid (turn3_l ve 14 14 x6 h5 (by omega) rfl hx6)
      have HT11 := hid (turn3_l ve 18 18 x11 h5 (by omega) rfl hx11)
      have HT25 := hid (turn3_l ve 41 41 x25 h5 (by omega) rfl hx25)
      have HT2 := hid (turn3_l va 28 28 y2 h1 (by omega) rfl hy2)
      have HT13 := hid (turn3_l va 34 34 y13 h1 (by omega) rfl hy13)
      have HT22 := hid (turn3_l va 39 39 y22 h1 (by omega) rfl hy22)
      obtain ⟨a1, ha1⟩ : ∃ a, a = S1L ve := ⟨_, rfl⟩
      obtain ⟨a0, ha0⟩ : ∃ a, a = S0L va := ⟨_, rfl⟩
      have ha1l : a1 < 18446744073709551616 := by rw [ha1]; exact S1L_lt ve h5
      have ha0l : a0 < 18446744073709551616 := by rw [ha0]; exact S0L_lt va h1
      have e1 : bits .xor .u64 (bits .xor .u64 (x6 : Int) (x11 : Int)) (x25 : Int) = (a1 : Int) := by
        rw [xor3L_u64 _ _ _ (by rw [hx6]; exact rotrL_lt ve 14 h5 (by omega)) (by rw [hx11]; exact rotrL_lt ve 18 h5 (by omega)) (by rw [hx25]; exact rotrL_lt ve 41 h5 (by omega)), ha1, hx6, hx11, hx25]; rfl
      have e0 : bits .xor .u64 (bits .xor .u64 (y2 : Int) (y13 : Int)) (y22 : Int) = (a0 : Int) := by
        rw [xor3L_u64 _ _ _ (by rw [hy2]; exact rotrL_lt va 28 h1 (by omega)) (by rw [hy13]; exact rotrL_lt va 34 h1 (by omega)) (by rw [hy22]; exact rotrL_lt va 39 h1 (by omega)), ha0, hy2, hy13, hy22]; rfl
      obtain ⟨u1, hu1⟩ : ∃ u, u = (vh + a1) % 18446744073709551616 := ⟨_, rfl⟩
      obtain ⟨u2, hu2⟩ : ∃ u, u = (u1 + ch) % 18446744073709551616 := ⟨_, rfl⟩
      obtain ⟨u3, hu3⟩ : ∃ u, u = (u2 + kq) % 18446744073709551616 := ⟨_, rfl⟩
      obtain ⟨u4, hu4⟩ : ∃ u, u = (u3 + xq) % 18446744073709551616 := ⟨_, rfl⟩
      obtain ⟨z2, hz2⟩ : ∃ u, u = (a0 + mj) % 18446744073709551616 := ⟨_, rfl⟩
      obtain ⟨u5, hu5⟩ : ∃ u, u = (u4 + z2) % 18446744073709551616 := ⟨_, rfl⟩
      obtain ⟨u6, hu6⟩ : ∃ u, u = (vd + u4) % 18446744073709551616 := ⟨_, rfl⟩
      have f1 : IntKind.u64.wrap ((vh : Int) + (a1 : Int)) = (u1 : Int) := addL_u64 _ _ _ hu1
      have f2 : IntKind.u64.wrap ((u1 : Int) + (ch : Int)) = (u2 : Int) := addL_u64 _ _ _ hu2
      have f3 : IntKind.u64.wrap ((u2 : Int) + (kq : Int)) = (u3 : Int) := addL_u64 _ _ _ hu3
      have f4 : IntKind.u64.wrap ((u3 : Int) + (xq : Int)) = (u4 : Int) := addL_u64 _ _ _ hu4
      have f5 : IntKind.u64.wrap ((a0 : Int) + (mj : Int)) = (z2 : Int) := addL_u64 _ _ _ hz2
      have f6 : IntKind.u64.wrap ((u4 : Int) + (z2 : Int)) = (u5 : Int) := addL_u64 _ _ _ hu5
      have f7 : IntKind.u64.wrap ((vd : Int) + (u4 : Int)) = (u6 : Int) := addL_u64 _ _ _ hu6
      have hnext : (⟨u5, va, vb, vc, u6, ve, vf, vg⟩ : St8) = rndL K xs v0 (q + 1) := by
        rw [rndL, ← HV.out, St8.stepL, t1L, t2L, ← HKQ.out, ← HXQ.out]
        have g1 : u5 = (vh + a1 + ch + kq + xq + (a0 + mj)) % 18446744073709551616 := by omega
        have g2 : u6 = (vd + (vh + a1 + ch + kq + xq)) % 18446744073709551616 := by omega
        rw [g1, g2]
        simp only [ha0, ha1, hch, hmj]
      have HNEXT := hid hnext
      clear hx6 hx11 hx25 hy2 hy13 hy22 ha1 ha0 hu1 hu2 hu3 hu4 hz2 hu5 hu6 hnext hch hmj h1 h2 h3 h4 h5 h6 h7 h8 ha1l ha0l hchl hmjl hkql hxql
      have q1 : (q : Int) < ((80 : Nat) : Int) := by omega
      go_wp2
      go_quiet ((go_at_call 61; first | with_reducible exact HT6.out _ _ | with_reducible exact HT11.out _ _ | with_reducible exact HT25.out _ _))
      clear HT6 HT11 HT25 f1 f2 f3 f4 e1 hck hcx
      obtain ⟨wa, hwa⟩ : ∃ wa : World, wa = w7.drewN nq := ⟨_, rfl⟩
      replace hc0 : wa.cell? ⟨gq, 0, none⟩ = some (.int .u64 (va : Int)) := by rw [hwa]; exact hc0
      have HBA : Hid (Below wt.heap.size wt wa) := hid (by rw [hwa]; exact below_drewN HB7.out nq)
      have HRA : Hid (RowU wa gq (St8.list ⟨va, vb, vc, vd, ve, vf, vg, vh⟩)) := hid (HRU.out.keep (by rw [hwa, HW7.out]; rfl))
      rw [← hwa]
      clear hwa hc3 hc4 hc7 HW7 HB7
      go_wp2
      go_quiet ((go_at_call 61; first | with_reducible exact HT2.out _ _ | with_reducible exact HT13.out _ _ | with_reducible exact HT22.out _ _))
      clear HT2 HT13 HT22 f5 e0 hc0
      obtain ⟨wc, hwc⟩ : ∃ wc : World, wc = wa.drewN nq := ⟨_, rfl⟩
      have HBC : Hid (Below wt.heap.size wt wc) := hid (by rw [hwc]; exact below_drewN HBA.out nq)
      have HRC : Hid (RowU wc gq (St8.list ⟨va, vb, vc, vd, ve, vf, vg, vh⟩)) := hid (HRA.out.keep (by rw [hwc]; rfl))
      rw [← hwc]
      clear hwc HBA HRA
      have hd0 : wc.cell? ⟨gq, 0, none⟩ = some (.int .u64 (va : Int)) := HRC.out.cell rfl
      have hd1 : wc.cell? ⟨gq, 1, none⟩ = some (.int .u64 (vb : Int)) := HRC.out.cell rfl
      have hd2 : wc.cell? ⟨gq, 2, none⟩ = some (.int .u64 (vc : Int)) := HRC.out.cell rfl
      have hd3 : wc.cell? ⟨gq, 3, none⟩ = some (.int .u64 (vd : Int)) := HRC.out.cell rfl
      have hd4 : wc.cell? ⟨gq, 4, none⟩ = some (.int .u64 (ve : Int)) := HRC.out.cell rfl
      have hd5 : wc.cell? ⟨gq, 5, none⟩ = some (.int .u64 (vf : Int)) := HRC.out.cell rfl
      have hd6 : wc.cell? ⟨gq, 6, none⟩ = some (.int .u64 (vg : Int)) := HRC.out.cell rfl
      go_wp2
      refine wp_region_quiet_tail 26 (by kernel_rfl) (by kernel_rfl) ?_
      simp only [List.take_succ_cons, List.take_zero, List.drop_succ_cons, List.drop_zero]
      repeat (quiet_step (fail))
      refine wpQuiet_nil ?_
      rintro _ ⟨ne, rfl⟩
      clear hd0 hd1 hd2 hd3 hd4 hd5 hd6 f6 f7 
      obtain ⟨we, hwe⟩ : ∃ we : World, we = wc.drewN ne := ⟨_, rfl⟩
      have HBE : Hid (Below wt.heap.size wt we) := hid (by rw [hwe]; exact below_drewN HBC.out ne)
      rw [← hwe]
      clear hwe HBC HRC
      go_wp2
      have hq := HQ.out
      go_roundg (80 - q - 1)
      case measure => omega
      case rel =>
        refine ⟨q + 1, we.heap.size, 8, by omega, by go_num, rfl, ?_, HBE.out.size, by omega, by omega, HBE.out.alloc HBE.out.size _⟩
        rw [← HNEXT.out]
        exact ⟨(uvs (St8.list ⟨u5, va, vb, vc, u6, ve, vf, vg⟩)).toArray, heap_alloc_new _ _, fun j x hx => by
          rw [List.getElem?_toArray, uvs, List.getElem?_map, hx]; rfl⟩
    · obtain rfl : q = 80 := by omega
      have hqi : ¬ ((80 : Nat) : Int) < 80 := by omega
      have hru := HRU.out
      rw [HV.out] at hru
      have HRU' := hid hru
      clear hru hc0 hc1 hc2 hc3 hc4 hc5 hc6' hc7
      go_wp2
      exact hexit gq cq wq _ _ _ _ _ _ _ _ _ _ _ _ _ _ _ _ _ _ _ _ _ _ _ _ _ _ _ _ _ _ _ _ _ _ _ _ _ _ _ _ _ _ _ _ _ _ _ _ _ _ _ _ _ _ _ _ _ _ _ _ _ _ _ _ _ _ _ _ _ _ _ _ _ _ _ _ _ _ _ _ _ _ _ _ _ _ _ _ _ _ _ _ _ _ _ _ _ _ _ _ _ _ _ _ _ _ _ _ _ _ _ _ _ _ _ _ _ _ _ _ _ _ _ _ _ _ _ _ _ _ _ _ _ _ _ _ HRU'.out hgq hcq1 hcq2 HB.out
end Go.Proofs.YtheamlhhfkaknaaGreatDoor
end
section
namespace Go.Proofs.YtheamlhhfkaknaaGreatDoor
open Go.RowKit
set_option linter.unusedVariables false
set_option linter.unusedSimpArgs false
/-- The first i of two states added, the rest of the first as it is. -/
def plusToL (s v : St8) (i : Nat) : List Nat := (s.plusL v).list.take i ++ s.list.drop i
theorem plusToL_zero (s v : St8) : plusToL s v 0 = s.list := by simp [plusToL]
theorem plusToL_end (s v : St8) : plusToL s v 8 = (s.plusL v).list := by simp [plusToL, St8.list]
theorem plusToL_length (s v : St8) (i : Nat) (h : i ≤ 8) : (plusToL s v i).length = 8 := by simp [plusToL]; omega
theorem plusToL_get (s v : St8) (i : Nat) (h : i < 8) : (plusToL s v i)[i]? = some (s.list.getD i 0) := by
  rw [plusToL, List.getElem?_append_right (by rw [List.length_take, St8.list_length]; omega), List.getElem?_drop]
  have : (List.take i (s.plusL v).list).length = i := by rw [List.length_take, St8.list_length]; omega
  rw [this, Nat.sub_self, Nat.add_zero, List.getD_eq_getElem?_getD, List.getElem?_eq_getElem (by simpa using h)]; rfl
theorem plusNL_get (s v : St8) (i : Nat) (h : i < 8) : (s.plusL v).list[i]? = some ((s.list.getD i 0 + v.list.getD i 0) % 18446744073709551616) := by
  have : i = 0 ∨ i = 1 ∨ i = 2 ∨ i = 3 ∨ i = 4 ∨ i = 5 ∨ i = 6 ∨ i = 7 := by omega
  rcases this with rfl | rfl | rfl | rfl | rfl | rfl | rfl | rfl <;> rfl
theorem plusToL_next (s v : St8) (i r : Nat) (h : i < 8) (hr : r = (s.list.getD i 0 + v.list.getD i 0) % 18446744073709551616) : (plusToL s v i).set i r = plusToL s v (i + 1) := by
  have hl : (List.take i (s.plusL v).list).length = i := by rw [List.length_take, St8.list_length]; omega
  have h1 : (s.plusL v).list.take (i + 1) = (s.plusL v).list.take i ++ [r] := by
    rw [List.take_succ_eq_append_getElem (by simpa using h)]
    congr 2
    have := plusNL_get s v i h
    rw [List.getElem?_eq_getElem (by simpa using h)] at this
    injection this with this
    rw [this, hr]
  have h2 : s.list.drop i = s.list[i]'(by simpa using h) :: s.list.drop (i + 1) := List.drop_eq_getElem_cons (by simpa using h)
  rw [plusToL, plusToL, h1, List.set_append_right _ _ (by omega), hl, Nat.sub_self, h2, List.set_cons_zero, List.append_assoc]
  rfl
theorem listL_lt (s : St8) (hs : s.okL) (i : Nat) : s.list.getD i 0 < 18446744073709551616 := by
  obtain ⟨h1, h2, h3, h4, h5, h6, h7, h8⟩ := hs
  by_cases h : i < 8
  · have : i = 0 ∨ i = 1 ∨ i = 2 ∨ i = 3 ∨ i = 4 ∨ i = 5 ∨ i = 6 ∨ i = 7 := by omega
    rcases this with rfl | rfl | rfl | rfl | rfl | rfl | rfl | rfl <;> assumption
  · rw [List.getD_eq_getElem?_getD, List.getElem?_eq_none (by simp; omega)]; decide
set_option maxRecDepth 100000 in
set_option maxHeartbeats 4000000 in
theorem plus3_loop {Q : Exit → Act → World → Prop} (gh ch gq cq : Nat) (s v : St8) (w0 : World) (t0 t1 t2 t3 t4 t5 t6 t7 t8 t10 t11 t12 t13 t14 t15 t16 t17 t18 t19 t21 t22 t23 t24 t25 t26 t27 t28 t30 t31 t32 t33 t34 t35 t36 t37 t38 t39 t40 t41 t42 t43 t44 t45 t46 t47 t48 t49 t50 t51 t52 t53 t54 t55 t56 t57 t58 t59 t60 t61 t62 t63 t64 t65 t66 t67 t68 t69 t70 t71 t72 t73 t74 t75 t76 t77 t78 t79 t80 t81 t82 t83 t84 t85 t86 t87 t88 t89 t90 t91 t92 t93 t94 t95 t96 t97 t98 t99 t100 t101 t102 t103 t104 t105 t106 t107 t108 t109 t110 t111 t112 t113 t114 t115 t116 t117 t118 t119 t120 t121 t122 t123 t124 t125 t126 t127 t128 t129 t130 t131 t132 t133 t134 t135 t136 t137 t138 t139 t140 t141 t142 t143 t144 t145 t146 t147 t148 t149 t150 t151 t152 t153 t154 t155 t156 t157 t158 t159 t160 t161 t162 t163 t164 t165 t166 t167 t168 t169 t170 t171 t172 t173 t174 t175 t176 t177 t178 t179 t180 t181 t182 t183 t184 t185 t186 t187 t188 t189 t190 t191 t192 t193 t194 t195 t196 t197 t198 t199 t200 t201 t202 t203 t204 t205 t206 t207 t208 t209 t210 t211 t212 t213 t214 t215 t216 t217 t218 t219 t220 t221 t222 t223 t224 t225 t226 t227 t228 t229 t230 t231 t232 t233 t234 t235 t236 t237 t238 t239 t240 t241 t242 t243 t244 t245 t246 t247 t248 t249 t250 t251 t252 t253 t254 t255 t256 t257 t258 t259 t260 t261 t262 t263 t264 t265 t266 t267 t268 t269 t270 t271 t272 t273 t274 t275 t276 t277 t278 t279 t280 t281 t282 t283 t284 t285 t286 t287 t288 t289 t290 t291 t292 t293 t294 t295 t296 t297 t298 t299 t300 t301 t302 t303 t304 t305 t306 t307 t308 t309 t310 t311 t312 t313 t314 t315 t316 t317 t318 t319 t320 t321 t322 t323 t324 t325 t326 t327 t328 t329 t330 t331 t332 t333 t334 t335 t336 t337 t338 t339 t340 t341 t342 t343 t344 t345 t346 t347 t348 t349 t350 t351 t352 t353 : Value)
    (hs : s.okL) (hv : v.okL) (hch : 8 ≤ ch) (hcq : 8 ≤ cq) (hne : gh ≠ gq) (hrs : RowU w0 gh s.list) (hrv : RowU w0 gq v.list)
    (hexit : ∀ (w' : World) (u29 u313 u314 u315 u316 u317 u318 u319 u320 u321 u322 u323 u324 u325 u326 u327 u328 : Value), RowU w' gh (s.plusL v).list → w0.grownBy w' (some gh) → Q (.exit 20) ⟨(t0 :: t1 :: t2 :: t3 :: t4 :: t5 :: t6 :: t7 :: t8 :: (.slice (some ⟨gh, 0, none⟩) 8 ch) :: t10 :: t11 :: t12 :: t13 :: t14 :: t15 :: t16 :: t17 :: t18 :: t19 :: (.slice (some ⟨gq, 0, none⟩) 8 cq) :: t21 :: t22 :: t23 :: t24 :: t25 :: t26 :: t27 :: t28 :: u29 :: t30 :: t31 :: t32 :: t33 :: t34 :: t35 :: t36 :: t37 :: t38 :: t39 :: t40 :: t41 :: t42 :: t43 :: t44 :: t45 :: t46 :: t47 :: t48 :: t49 :: t50 :: t51 :: t52 :: t53 :: t54 :: t55 :: t56 :: t57 :: t58 :: t59 :: t60 :: t61 :: t62 :: t63 :: t64 :: t65 :: t66 :: t67 :: t68 :: t69 :: t70 :: t71 :: t72 :: t73 :: t74 :: t75 :: t76 :: t77 :: t78 :: t79 :: t80 :: t81 :: t82 :: t83 :: t84 :: t85 :: t86 :: t87 :: t88 :: t89 :: t90 :: t91 :: t92 :: t93 :: t94 :: t95 :: t96 :: t97 :: t98 :: t99 :: t100 :: t101 :: t102 :: t103 :: t104 :: t105 :: t106 :: t107 :: t108 :: t109 :: t110 :: t111 :: t112 :: t113 :: t114 :: t115 :: t116 :: t117 :: t118 :: t119 :: t120 :: t121 :: t122 :: t123 :: t124 :: t125 :: t126 :: t127 :: t128 :: t129 :: t130 :: t131 :: t132 :: t133 :: t134 :: t135 :: t136 :: t137 :: t138 :: t139 :: t140 :: t141 :: t142 :: t143 :: t144 :: t145 :: t146 :: t147 :: t148 :: t149 :: t150 :: t151 :: t152 :: t153 :: t154 :: t155 :: t156 :: t157 :: t158 :: t159 :: t160 :: t161 :: t162 :: t163 :: t164 :: t165 :: t166 :: t167 :: t168 :: t169 :: t170 :: t171 :: t172 :: t173 :: t174 :: t175 :: t176 :: t177 :: t178 :: t179 :: t180 :: t181 :: t182 :: t183 :: t184 :: t185 :: t186 :: t187 :: t188 :: t189 :: t190 :: t191 :: t192 :: t193 :: t194 :: t195 :: t196 :: t197 :: t198 :: t199 :: t200 :: t201 :: t202 :: t203 :: t204 :: t205 :: t206 :: t207 :: t208 :: t209 :: t210 :: t211 :: t212 :: t213 :: t214 :: t215 :: t216 :: t217 :: t218 :: t219 :: t220 :: t221 :: t222 :: t223 :: t224 :: t225 :: t226 :: t227 :: t228 :: t229 :: t230 :: t231 :: t232 :: t233 :: t234 :: t235 :: t236 :: t237 :: t238 :: t239 :: t240 :: t241 :: t242 :: t243 :: t244 :: t245 :: t246 :: t247 :: t248 :: t249 :: t250 :: t251 :: t252 :: t253 :: t254 :: t255 :: t256 :: t257 :: t258 :: t259 :: t260 :: t261 :: t262 :: t263 :: t264 :: t265 :: t266 :: t267 :: t268 :: t269 :: t270 :: t271 :: t272 :: t273 :: t274 :: t275 :: t276 :: t277 :: t278 :: t279 :: t280 :: t281 :: t282 :: t283 :: t284 :: t285 :: t286 :: t287 :: t288 :: t289 :: t290 :: t291 :: t292 :: t293 :: t294 :: t295 :: t296 :: t297 :: t298 :: t299 :: t300 :: t301 :: t302 :: t303 :: t304 :: t305 :: t306 :: t307 :: t308 :: t309 :: t310 :: t311 :: t312 :: u313 :: u314 :: u315 :: u316 :: u317 :: u318 :: u319 :: u320 :: u321 :: u322 :: u323 :: u324 :: u325 :: u326 :: u327 :: u328 :: t329 :: t330 :: t331 :: t332 :: t333 :: t334 :: t335 :: t336 :: t337 :: t338 :: t339 :: t340 :: t341 :: t342 :: t343 :: t344 :: t345 :: t346 :: t347 :: t348 :: t349 :: t350 :: t351 :: t352 :: t353 :: []).toArray, []⟩ w') :
    Code.wp Tryz.prog (Code.loop (loopN Tryz.f33 10)) Q ⟨(t0 :: t1 :: t2 :: t3 :: t4 :: t5 :: t6 :: t7 :: t8 :: (.slice (some ⟨gh, 0, none⟩) 8 ch) :: t10 :: t11 :: t12 :: t13 :: t14 :: t15 :: t16 :: t17 :: t18 :: t19 :: (.slice (some ⟨gq, 0, none⟩) 8 cq) :: t21 :: t22 :: t23 :: t24 :: t25 :: t26 :: t27 :: t28 :: (.int .i64 0) :: t30 :: t31 :: t32 :: t33 :: t34 :: t35 :: t36 :: t37 :: t38 :: t39 :: t40 :: t41 :: t42 :: t43 :: t44 :: t45 :: t46 :: t47 :: t48 :: t49 :: t50 :: t51 :: t52 :: t53 :: t54 :: t55 :: t56 :: t57 :: t58 :: t59 :: t60 :: t61 :: t62 :: t63 :: t64 :: t65 :: t66 :: t67 :: t68 :: t69 :: t70 :: t71 :: t72 :: t73 :: t74 :: t75 :: t76 :: t77 :: t78 :: t79 :: t80 :: t81 :: t82 :: t83 :: t84 :: t85 :: t86 :: t87 :: t88 :: t89 :: t90 :: t91 :: t92 :: t93 :: t94 :: t95 :: t96 :: t97 :: t98 :: t99 :: t100 :: t101 :: t102 :: t103 :: t104 :: t105 :: t106 :: t107 :: t108 :: t109 :: t110 :: t111 :: t112 :: t113 :: t114 :: t115 :: t116 :: t117 :: t118 :: t119 :: t120 :: t121 :: t122 :: t123 :: t124 :: t125 :: t126 :: t127 :: t128 :: t129 :: t130 :: t131 :: t132 :: t133 :: t134 :: t135 :: t136 :: t137 :: t138 :: t139 :: t140 :: t141 :: t142 :: t143 :: t144 :: t145 :: t146 :: t147 :: t148 :: t149 :: t150 :: t151 :: t152 :: t153 :: t154 :: t155 :: t156 :: t157 :: t158 :: t159 :: t160 :: t161 :: t162 :: t163 :: t164 :: t165 :: t166 :: t167 :: t168 :: t169 :: t170 :: t171 :: t172 :: t173 :: t174 :: t175 :: t176 :: t177 :: t178 :: t179 :: t180 :: t181 :: t182 :: t183 :: t184 :: t185 :: t186 :: t187 :: t188 :: t189 :: t190 :: t191 :: t192 :: t193 :: t194 :: t195 :: t196 :: t197 :: t198 :: t199 :: t200 :: t201 :: t202 :: t203 :: t204 :: t205 :: t206 :: t207 :: t208 :: t209 :: t210 :: t211 :: t212 :: t213 :: t214 :: t215 :: t216 :: t217 :: t218 :: t219 :: t220 :: t221 :: t222 :: t223 :: t224 :: t225 :: t226 :: t227 :: t228 :: t229 :: t230 :: t231 :: t232 :: t233 :: t234 :: t235 :: t236 :: t237 :: t238 :: t239 :: t240 :: t241 :: t242 :: t243 :: t244 :: t245 :: t246 :: t247 :: t248 :: t249 :: t250 :: t251 :: t252 :: t253 :: t254 :: t255 :: t256 :: t257 :: t258 :: t259 :: t260 :: t261 :: t262 :: t263 :: t264 :: t265 :: t266 :: t267 :: t268 :: t269 :: t270 :: t271 :: t272 :: t273 :: t274 :: t275 :: t276 :: t277 :: t278 :: t279 :: t280 :: t281 :: t282 :: t283 :: t284 :: t285 :: t286 :: t287 :: t288 :: t289 :: t290 :: t291 :: t292 :: t293 :: t294 :: t295 :: t296 :: t297 :: t298 :: t299 :: t300 :: t301 :: t302 :: t303 :: t304 :: t305 :: t306 :: t307 :: t308 :: t309 :: t310 :: t311 :: t312 :: t313 :: t314 :: t315 :: t316 :: t317 :: t318 :: t319 :: t320 :: t321 :: t322 :: t323 :: t324 :: t325 :: t326 :: t327 :: t328 :: t329 :: t330 :: t331 :: t332 :: t333 :: t334 :: t335 :: t336 :: t337 :: t338 :: t339 :: t340 :: t341 :: t342 :: t343 :: t344 :: t345 :: t346 :: t347 :: t348 :: t349 :: t350 :: t351 :: t352 :: t353 :: []).toArray, []⟩ w0 := by
  conv => arg 2; arg 1; whnf
  have HS := hid hs; have HV := hid hv; have HRV := hid hrv
  have hrs0 : RowU w0 gh (plusToL s v 0) := by rw [plusToL_zero]; exact hrs
  clear hs hv hrv
  go_loopg [29] 8 (fun g i wr => ∃ n : Nat, n + g = 8 ∧ i = .int .i64 (n : Int) ∧ RowU wr gh (plusToL s v n) ∧ w0.grownBy wr (some gh))
  case atStart => exact ⟨0, rfl, rfl, hrs0, World.grownBy.refl _ _⟩
  case round =>
    clear hrs hrs0
    obtain ⟨n, hn, rfl, hr, hg⟩ := hrel
    obtain ⟨wq, rfl⟩ : ∃ wq : World, wq = wr := ⟨_, rfl⟩
    have HN := hid hn; have HR := hid hr; have HG := hid hg
    have hn8 : n ≤ 8 := by omega
    clear hn hr hg
    by_cases hlt : n < 8
    · have hni : (n : Int) < 8 := by omega
      have hn0 : (0 : Int) ≤ (n : Int) := by omega
      clear hexit
      have hrv := HRV.out.keep (HG.out.block gq HRV.out.lt (by simpa using fun e => hne e.symm))
      obtain ⟨x, hx⟩ : ∃ x, x = s.list.getD n 0 := ⟨_, rfl⟩
      obtain ⟨y, hy⟩ : ∃ y, y = v.list.getD n 0 := ⟨_, rfl⟩
      have hxl : x < 18446744073709551616 := by rw [hx]; exact listL_lt s HS.out n
      have hyl : y < 18446744073709551616 := by rw [hy]; exact listL_lt v HV.out n
      have hcx : wq.cell? ⟨gh, n, none⟩ = some (.int .u64 (x : Int)) := HR.out.cell (by rw [plusToL_get s v n hlt, hx])
      have hcy : wq.cell? ⟨gq, n, none⟩ = some (.int .u64 (y : Int)) := hrv.cell (by rw [hy, List.getD_eq_getElem?_getD, List.getElem?_eq_getElem (by simpa using hlt)]; rfl)
      have hfz := HR.out.frz n
      obtain ⟨r, hr⟩ : ∃ r, r = (x + y) % 18446744073709551616 := ⟨_, rfl⟩
      have f1 : IntKind.u64.wrap ((x : Int) + (y : Int)) = (r : Int) := addL_u64 _ _ _ hr
      have hnext : (plusToL s v n).set n r = plusToL s v (n + 1) := plusToL_next s v n r hlt (by rw [hr, hx, hy])
      have HNEXT := hid hnext
      have hset := HR.out.set n r (by rw [plusToL_length s v n hn8]; exact hlt)
      rw [hnext] at hset
      clear hx hy hr hnext hrv hset hxl hyl
      go_wp2
      refine wp_region_quiet_tail 12 (by kernel_rfl) (by kernel_rfl) ?_
      simp only [List.take_succ_cons, List.take_zero, List.drop_succ_cons, List.drop_zero]
      repeat (quiet_step (fail))
      refine wpQuiet_nil ?_
      rintro _ ⟨ne, rfl⟩
      go_wp2
      have hn := HN.out
      go_roundg (8 - n - 1)
      case measure => omega
      case rel =>
        refine ⟨n + 1, by omega, by go_num, ?_, ?_⟩
        · rw [← HNEXT.out]
          exact RowU.set (w := wq.drewN ne) (HR.out.keep rfl) n r (by rw [plusToL_length s v n hn8]; exact hlt)
        · have hgd : w0.grownBy (wq.drewN ne) (some gh) := ⟨HG.out.os, HG.out.tape, HG.out.output, HG.out.size, HG.out.block⟩
          exact grown_step hgd (.inl rfl) (grown_setCell _ _ _ _ _)
    · obtain rfl : n = 8 := by omega
      have hni : ¬ ((8 : Nat) : Int) < 8 := by omega
      have hr8 := HR.out
      rw [plusToL_end] at hr8
      have HR8 := hid hr8
      clear hr8 HR
      go_wp2
      exact hexit wq _ _ _ _ _ _ _ _ _ _ _ _ _ _ _ _ _ HR8.out HG.out
end Go.Proofs.YtheamlhhfkaknaaGreatDoor
end
section
namespace Go.Proofs.YtheamlhhfkaknaaGreatDoor
open Go.RowKit
set_option linter.unusedVariables false
set_option linter.unusedSimpArgs false
/-- A word's first k bytes of eight. -/
def wk8 (m : List UInt8) (t : Nat) : Nat → Nat
  | 0 => 0
  | k + 1 => 256 * wk8 m t k + (m.getD (8 * t + k) 0).toNat
theorem wk8_lt (m : List UInt8) (t k : Nat) : wk8 m t k < 256 ^ k := by
  induction k with
  | zero => simp [wk8]
  | succ k ih =>
    have := (m.getD (8 * t + k) 0).toNat_lt
    rw [Nat.pow_succ, wk8]; omega
theorem wk8_be (m : List UInt8) (t k : Nat) (h : 8 * t + k ≤ m.length) : wk8 m t k = beNum 0 ((m.drop (8 * t)).take k) := by
  induction k with
  | zero => rfl
  | succ k ih =>
    have e : (m.drop (8 * t)).take (k + 1) = (m.drop (8 * t)).take k ++ [m.getD (8 * t + k) 0] := by
      rw [List.take_succ_eq_append_getElem (by rw [List.length_drop]; omega), List.getElem_drop, List.getD_eq_getElem?_getD, List.getElem?_eq_getElem (by omega)]
      rfl
    rw [wk8, ih (by omega), e, beNum_snoc, Nat.mul_comm]
theorem wk8_end (m : List UInt8) (t : Nat) (h : 8 * t + 8 ≤ m.length) : wk8 m t 8 = word8 m t := wk8_be m t 8 h
theorem block128_getD (zs : List UInt8) (j k : Nat) (h : k < 128) : ((zs.drop (128 * j)).take 128).getD k 0 = zs.getD (128 * j + k) 0 := by
  rw [List.getD_eq_getElem?_getD, List.getElem?_take_of_lt h, List.getElem?_drop, List.getD_eq_getElem?_getD]
theorem wordsToL_low (m : List UInt8) (t : Nat) (h : t < 16) : wordsToL m (t + 1) = wordsToL m t ++ [word8 m t] := by simp only [wordsToL, if_pos h]
theorem wordsToL_high (m : List UInt8) (t : Nat) (h : ¬ t < 16) : wordsToL m (t + 1) = wordsToL m t ++ [(s1L ((wordsToL m t).getD (t - 2) 0) + (wordsToL m t).getD (t - 7) 0 + s0L ((wordsToL m t).getD (t - 15) 0) + (wordsToL m t).getD (t - 16) 0) % 18446744073709551616] := by simp only [wordsToL, if_neg h]
set_option maxRecDepth 100000 in
set_option maxHeartbeats 4000000 in
theorem words3_loop {Q : Exit → Act → World → Prop} (gm cm j B : Nat) (zs m : List UInt8) (wb : World) (t0 t1 t2 t4 t5 t6 t7 t8 t9 t10 t11 t12 t16 t17 t18 t19 t20 t21 t22 t23 t24 t25 t26 t27 t28 t29 t30 t31 t32 t33 t34 t35 t36 t37 t38 t39 t40 t41 t42 t43 t44 t45 t46 t47 t48 t49 t50 t51 t52 t53 t54 t55 t56 t57 t58 t59 t60 t61 t62 t63 t64 t65 t66 t67 t68 t69 t70 t71 t72 t73 t74 t75 t76 t77 t78 t79 t80 t81 t82 t83 t84 t85 t86 t87 t88 t89 t90 t91 t92 t93 t94 t95 t96 t97 t98 t99 t100 t101 t102 t103 t104 t105 t106 t107 t108 t109 t110 t111 t112 t113 t114 t115 t116 t117 t118 t119 t120 t121 t122 t123 t124 t125 t126 t127 t128 t129 t130 t131 t132 t133 t134 t135 t136 t137 t138 t139 t140 t141 t142 t143 t144 t145 t146 t147 t148 t149 t150 t151 t152 t153 t154 t155 t156 t157 t158 t159 t160 t161 t162 t163 t164 t165 t166 t167 t168 t169 t170 t171 t172 t173 t174 t175 t176 t177 t178 t179 t180 t181 t182 t183 t184 t185 t186 t187 t188 t189 t190 t191 t192 t193 t194 t195 t196 t197 t198 t199 t200 t201 t202 t203 t204 t205 t206 t207 t208 t209 t210 t211 t212 t213 t214 t215 t216 t217 t218 t219 t220 t221 t222 t223 t224 t225 t226 t227 t228 t229 t230 t231 t232 t233 t234 t235 t236 t237 t238 t239 t240 t241 t242 t243 t244 t245 t246 t247 t248 t249 t250 t251 t252 t253 t254 t255 t256 t257 t258 t259 t260 t261 t262 t263 t264 t265 t266 t267 t268 t269 t270 t271 t272 t273 t274 t275 t276 t277 t278 t279 t280 t281 t282 t283 t284 t285 t286 t287 t288 t289 t290 t291 t292 t293 t294 t295 t296 t297 t298 t299 t300 t301 t302 t303 t304 t305 t306 t307 t308 t309 t310 t311 t312 t313 t314 t315 t316 t317 t318 t319 t320 t321 t322 t323 t324 t325 t326 t327 t328 t329 t330 t331 t332 t333 t334 t335 t336 t337 t338 t339 t340 t341 t342 t343 t344 t345 t346 t347 t348 t349 t350 t351 t352 t353 : Value)
    (hpan : ∀ c (a : Act) (k : Tmp) (x : Value) (w : World), Q (.panic c) (a.put (some k) x) w → Q (.panic c) a w)
    (hzs40 : zs.length < 1099511627900) (hjz : 128 * j + 128 ≤ zs.length) (hzc : zs.length ≤ cm) (hlt : Lie wb B (some ⟨gm, 0, none⟩) (bvs zs)) (hszb : B ≤ wb.heap.size) (hm : m = (zs.drop (128 * j)).take 128)
    (hexit : ∀ (v : Value) (w' : World) (u15 u16 u17 u18 u19 u100 u101 u102 u103 u104 u105 u106 u107 u108 u109 u110 u111 u112 u113 u114 u115 u116 u117 u118 u119 u120 u121 u122 u123 u124 u125 u126 u127 u128 u129 u130 u131 u132 u133 u134 u135 u136 u137 u138 u139 u140 u141 u142 u143 u144 u145 u146 u147 u148 u149 u150 u151 u152 u153 u154 u155 u156 u157 u158 u159 u160 u161 u162 u163 u164 u165 u166 u167 u168 u169 u170 u171 u172 u173 u174 u175 u176 u177 u178 u179 u180 u181 : Value), OwnU w' wb.heap.size v (wordsToL m 80) → Below wb.heap.size wb w' → Q (.exit 12) ⟨(t0 :: t1 :: t2 :: (.slice (some ⟨gm, 0, none⟩) zs.length cm) :: t4 :: t5 :: t6 :: t7 :: t8 :: t9 :: t10 :: t11 :: t12 :: (.int .i64 (128 * (j : Int))) :: v :: u15 :: u16 :: u17 :: u18 :: u19 :: t20 :: t21 :: t22 :: t23 :: t24 :: t25 :: t26 :: t27 :: t28 :: t29 :: t30 :: t31 :: t32 :: t33 :: t34 :: t35 :: t36 :: t37 :: t38 :: t39 :: t40 :: t41 :: t42 :: t43 :: t44 :: t45 :: t46 :: t47 :: t48 :: t49 :: t50 :: t51 :: t52 :: t53 :: t54 :: t55 :: t56 :: t57 :: t58 :: t59 :: t60 :: t61 :: t62 :: t63 :: t64 :: t65 :: t66 :: t67 :: t68 :: t69 :: t70 :: t71 :: t72 :: t73 :: t74 :: t75 :: t76 :: t77 :: t78 :: t79 :: t80 :: t81 :: t82 :: t83 :: t84 :: t85 :: t86 :: t87 :: t88 :: t89 :: t90 :: t91 :: t92 :: t93 :: t94 :: t95 :: t96 :: t97 :: t98 :: t99 :: u100 :: u101 :: u102 :: u103 :: u104 :: u105 :: u106 :: u107 :: u108 :: u109 :: u110 :: u111 :: u112 :: u113 :: u114 :: u115 :: u116 :: u117 :: u118 :: u119 :: u120 :: u121 :: u122 :: u123 :: u124 :: u125 :: u126 :: u127 :: u128 :: u129 :: u130 :: u131 :: u132 :: u133 :: u134 :: u135 :: u136 :: u137 :: u138 :: u139 :: u140 :: u141 :: u142 :: u143 :: u144 :: u145 :: u146 :: u147 :: u148 :: u149 :: u150 :: u151 :: u152 :: u153 :: u154 :: u155 :: u156 :: u157 :: u158 :: u159 :: u160 :: u161 :: u162 :: u163 :: u164 :: u165 :: u166 :: u167 :: u168 :: u169 :: u170 :: u171 :: u172 :: u173 :: u174 :: u175 :: u176 :: u177 :: u178 :: u179 :: u180 :: u181 :: t182 :: t183 :: t184 :: t185 :: t186 :: t187 :: t188 :: t189 :: t190 :: t191 :: t192 :: t193 :: t194 :: t195 :: t196 :: t197 :: t198 :: t199 :: t200 :: t201 :: t202 :: t203 :: t204 :: t205 :: t206 :: t207 :: t208 :: t209 :: t210 :: t211 :: t212 :: t213 :: t214 :: t215 :: t216 :: t217 :: t218 :: t219 :: t220 :: t221 :: t222 :: t223 :: t224 :: t225 :: t226 :: t227 :: t228 :: t229 :: t230 :: t231 :: t232 :: t233 :: t234 :: t235 :: t236 :: t237 :: t238 :: t239 :: t240 :: t241 :: t242 :: t243 :: t244 :: t245 :: t246 :: t247 :: t248 :: t249 :: t250 :: t251 :: t252 :: t253 :: t254 :: t255 :: t256 :: t257 :: t258 :: t259 :: t260 :: t261 :: t262 :: t263 :: t264 :: t265 :: t266 :: t267 :: t268 :: t269 :: t270 :: t271 :: t272 :: t273 :: t274 :: t275 :: t276 :: t277 :: t278 :: t279 :: t280 :: t281 :: t282 :: t283 :: t284 :: t285 :: t286 :: t287 :: t288 :: t289 :: t290 :: t291 :: t292 :: t293 :: t294 :: t295 :: t296 :: t297 :: t298 :: t299 :: t300 :: t301 :: t302 :: t303 :: t304 :: t305 :: t306 :: t307 :: t308 :: t309 :: t310 :: t311 :: t312 :: t313 :: t314 :: t315 :: t316 :: t317 :: t318 :: t319 :: t320 :: t321 :: t322 :: t323 :: t324 :: t325 :: t326 :: t327 :: t328 :: t329 :: t330 :: t331 :: t332 :: t333 :: t334 :: t335 :: t336 :: t337 :: t338 :: t339 :: t340 :: t341 :: t342 :: t343 :: t344 :: t345 :: t346 :: t347 :: t348 :: t349 :: t350 :: t351 :: t352 :: t353 :: []).toArray, []⟩ w') :
    Code.wp Tryz.prog (Code.loop (loopN Tryz.f33 6)) Q ⟨(t0 :: t1 :: t2 :: (.slice (some ⟨gm, 0, none⟩) zs.length cm) :: t4 :: t5 :: t6 :: t7 :: t8 :: t9 :: t10 :: t11 :: t12 :: (.int .i64 (128 * (j : Int))) :: (.slice none 0 0) :: (.int .i64 0) :: t16 :: t17 :: t18 :: t19 :: t20 :: t21 :: t22 :: t23 :: t24 :: t25 :: t26 :: t27 :: t28 :: t29 :: t30 :: t31 :: t32 :: t33 :: t34 :: t35 :: t36 :: t37 :: t38 :: t39 :: t40 :: t41 :: t42 :: t43 :: t44 :: t45 :: t46 :: t47 :: t48 :: t49 :: t50 :: t51 :: t52 :: t53 :: t54 :: t55 :: t56 :: t57 :: t58 :: t59 :: t60 :: t61 :: t62 :: t63 :: t64 :: t65 :: t66 :: t67 :: t68 :: t69 :: t70 :: t71 :: t72 :: t73 :: t74 :: t75 :: t76 :: t77 :: t78 :: t79 :: t80 :: t81 :: t82 :: t83 :: t84 :: t85 :: t86 :: t87 :: t88 :: t89 :: t90 :: t91 :: t92 :: t93 :: t94 :: t95 :: t96 :: t97 :: t98 :: t99 :: t100 :: t101 :: t102 :: t103 :: t104 :: t105 :: t106 :: t107 :: t108 :: t109 :: t110 :: t111 :: t112 :: t113 :: t114 :: t115 :: t116 :: t117 :: t118 :: t119 :: t120 :: t121 :: t122 :: t123 :: t124 :: t125 :: t126 :: t127 :: t128 :: t129 :: t130 :: t131 :: t132 :: t133 :: t134 :: t135 :: t136 :: t137 :: t138 :: t139 :: t140 :: t141 :: t142 :: t143 :: t144 :: t145 :: t146 :: t147 :: t148 :: t149 :: t150 :: t151 :: t152 :: t153 :: t154 :: t155 :: t156 :: t157 :: t158 :: t159 :: t160 :: t161 :: t162 :: t163 :: t164 :: t165 :: t166 :: t167 :: t168 :: t169 :: t170 :: t171 :: t172 :: t173 :: t174 :: t175 :: t176 :: t177 :: t178 :: t179 :: t180 :: t181 :: t182 :: t183 :: t184 :: t185 :: t186 :: t187 :: t188 :: t189 :: t190 :: t191 :: t192 :: t193 :: t194 :: t195 :: t196 :: t197 :: t198 :: t199 :: t200 :: t201 :: t202 :: t203 :: t204 :: t205 :: t206 :: t207 :: t208 :: t209 :: t210 :: t211 :: t212 :: t213 :: t214 :: t215 :: t216 :: t217 :: t218 :: t219 :: t220 :: t221 :: t222 :: t223 :: t224 :: t225 :: t226 :: t227 :: t228 :: t229 :: t230 :: t231 :: t232 :: t233 :: t234 :: t235 :: t236 :: t237 :: t238 :: t239 :: t240 :: t241 :: t242 :: t243 :: t244 :: t245 :: t246 :: t247 :: t248 :: t249 :: t250 :: t251 :: t252 :: t253 :: t254 :: t255 :: t256 :: t257 :: t258 :: t259 :: t260 :: t261 :: t262 :: t263 :: t264 :: t265 :: t266 :: t267 :: t268 :: t269 :: t270 :: t271 :: t272 :: t273 :: t274 :: t275 :: t276 :: t277 :: t278 :: t279 :: t280 :: t281 :: t282 :: t283 :: t284 :: t285 :: t286 :: t287 :: t288 :: t289 :: t290 :: t291 :: t292 :: t293 :: t294 :: t295 :: t296 :: t297 :: t298 :: t299 :: t300 :: t301 :: t302 :: t303 :: t304 :: t305 :: t306 :: t307 :: t308 :: t309 :: t310 :: t311 :: t312 :: t313 :: t314 :: t315 :: t316 :: t317 :: t318 :: t319 :: t320 :: t321 :: t322 :: t323 :: t324 :: t325 :: t326 :: t327 :: t328 :: t329 :: t330 :: t331 :: t332 :: t333 :: t334 :: t335 :: t336 :: t337 :: t338 :: t339 :: t340 :: t341 :: t342 :: t343 :: t344 :: t345 :: t346 :: t347 :: t348 :: t349 :: t350 :: t351 :: t352 :: t353 :: []).toArray, []⟩ wb := by
  conv => arg 2; arg 1; whnf
  have hml : m.length = 128 := by rw [hm, List.length_take, List.length_drop]; omega
  have HM := hid hm; have HLT := hid hlt; have HMM := hid hml
  clear hm hlt hml
  have hji : 128 * (j : Int) < (zs.length : Int) := by omega
  go_loopg [14, 15] 80 (fun g u i wr => ∃ t : Nat, t + g = 80 ∧ i = .int .i64 (t : Int) ∧ OwnU wr wb.heap.size u (wordsToL m t) ∧ Below wb.heap.size wb wr)
  case atStart => exact ⟨0, rfl, rfl, ownu_nil _ _, Below.refl _ _⟩
  case round =>
    obtain ⟨t, ht, rfl, ho, hb⟩ := hrel
    obtain ⟨wt, rfl⟩ : ∃ wt : World, wt = wr := ⟨_, rfl⟩
    obtain ⟨xs, hxs⟩ : ∃ xs, xs = wordsToL m t := ⟨_, rfl⟩
    rw [← hxs] at ho
    have hxl : xs.length = t := by rw [hxs]; exact wordsToL_length _ _
    unfold OwnU at ho
    rw [hxl] at ho
    have ht64 : t ≤ 80 := by omega
    have HT := hid ht; have HB := hid hb; have HXS := hid hxs; have HXL := hid hxl
    obtain ⟨A6, c6, rfl, hS6⟩ := own_sl ho
    have HO := hid ho; have HS6 := hid hS6.sq
    have hszt := hb.size
    clear ht hb hxs hxl ho hS6
    by_cases ht16 : t < 16
    · have hti : (t : Int) < 16 := by omega
      have HML : Hid (8 * t + 8 ≤ m.length) := hid (by rw [HMM.out]; omega)
      have hti64 : (t : Int) < 80 := by omega
      go_wp2
      go_loopg [16, 17] 8 (fun g x q wr => ∃ k y : Nat, k + g = 8 ∧ q = .int .i64 (k : Int) ∧ x = .int .u64 (y : Int) ∧ y = wk8 m t k ∧ wr = wt)
      case atStart => exact ⟨0, 0, rfl, rfl, rfl, rfl, rfl⟩
      case round =>
        obtain ⟨k, y, hk, rfl, rfl, hy, rfl⟩ := hrel
        have hyl : y < 256 ^ k := by rw [hy]; exact wk8_lt _ _ _
        have HK := hid hk; have HY := hid hy
        have hk4 : k ≤ 8 := by omega
        clear hk hy
        by_cases hlt4 : k < 8
        · have hki : (k : Int) < 8 := by omega
          have hk0 : (0 : Int) ≤ (k : Int) := by omega
          have hyb : y < 72057594037927936 := Nat.lt_of_lt_of_le hyl (Nat.pow_le_pow_right (show 256 > 0 by omega) (show k ≤ 7 by omega))
          obtain ⟨x, hx⟩ : ∃ x : UInt8, x = zs.getD (128 * j + (8 * t + k)) 0 := ⟨_, rfl⟩
          have hcx : wr.cell? ⟨gm, 0 + (128 * j + (8 * t + k)), none⟩ = some (.int .u8 (x.toNat : Int)) := by
            rw [hx]
            exact byte_cell (HLT.out.below (HB.out.mono hszb)) (by omega)
          have hx8 := x.toNat_lt
          have hcx' : wr.cell? ⟨gm, 128 * j + 8 * t + k, none⟩ = some (.int .u8 (x.toNat : Int)) := by
            rw [Nat.zero_add, ← Nat.add_assoc] at hcx; exact hcx
          have HX := hid hx
          clear hcx hx hyl
          go_wp2
          have hk := HK.out
          have hb64 : (zs.drop (128 * j)).length ≥ 128 := by rw [List.length_drop]; omega
          go_roundg (8 - k - 1)
          case measure => omega
          case rel => exact ⟨k + 1, 256 * y + x.toNat, by omega, by go_num, by go_num, by rw [wk8, HY.out, HM.out, block128_getD _ _ _ (by omega), HX.out], rfl⟩
        · obtain rfl : k = 8 := by omega
          have hki : ¬ ((8 : Nat) : Int) < 8 := by omega
          have hyw : y = word8 m t := by rw [HY.out, wk8_end m t HML.out]
          have HYW := hid hyw
          clear hyl hyw HK HY
          have HO2' := hid (World.ownsRow.alloc HO.out (.cells #[.int .u64 (y : Int)] 28))
          go_wp2_with (at_builtin; go_loud (refine wpList_append_lie rfl (.tmp 178) (.tmp 180) 80 rfl wb.heap.size 28 (.int .u64 0) 8 Tryz.underlying80 infoU64 rfl rfl HO2'.out rfl rfl (Lie.new1 _ _ _) ?i0 ?i1 ?i2 ?i3 ?_))
          case i0 => intros; first | rfl | (rename_i hu; simp at hu; subst hu; rfl)
          case i1 => try rw [List.length_singleton]
                     unfold maxLen; omega
          case i2 => try rw [List.length_singleton]
                     omega
          case i3 => first | (simp; omega) | (simp; done) | omega 
          intro v5 w5 hown5 hg5 _
          have hO5 : OwnU w5 wb.heap.size v5 (wordsToL m (t + 1)) := by
            rw [wordsToL_low m t ht16, ← HXS.out, ← HYW.out]
            exact ownu_snoc hown5 (by rw [HXL.out]) rfl
          have hB5 : Below wb.heap.size wb w5 := (HB.out.alloc HB.out.size _).grown hg5 (by simp; omega) (fun q h => own_lt HO2'.out q h)
          have HO5 := hid hO5; have HB5 := hid hB5
          clear hown5 hg5 hO5 hB5 HO2'
          go_wp2
          have ht := HT.out
          go_roundg (80 - t - 1)
          case measure => omega
          case rel => exact ⟨t + 1, by omega, by go_num, HO5.out, HB5.out⟩
    · have hti : ¬ (t : Int) < 16 := by omega
      have ht0 : (16 : Int) ≤ (t : Int) := by omega
      by_cases htt : t < 80
      · have hti64 : (t : Int) < 80 := by omega
        obtain ⟨g6, c6', hv6, hg61, hg62, _, _⟩ := ownU_form HO.out (by omega)
        simp only [Value.slice.injEq, true_and] at hv6
        obtain ⟨rfl, rfl⟩ := hv6
        have hold : ∀ d, 0 < d → d ≤ 16 → ∃ x : Nat, x = xs.getD (t - d) 0 ∧ x < 18446744073709551616 ∧ wt.cell? ⟨g6, t - d, none⟩ = some (.int .u64 (x : Int)) := fun d h0 hd =>
          ⟨_, rfl, by
            rw [List.getD_eq_getElem?_getD, List.getElem?_eq_getElem (show t - d < xs.length by rw [HXL.out]; omega)]
            exact wordsToL_lt m t _ (by rw [← HXS.out]; exact List.getElem_mem _), by
            have := word_cell HS6.out.lie (k := t - d) (by rw [HXL.out]; omega)
            rw [Nat.zero_add] at this; exact this⟩
        obtain ⟨x, hex, hx, hcx⟩ := hold 15 (by omega) (by omega)
        obtain ⟨y, hey, hy, hcy⟩ := hold 2 (by omega) (by omega)
        obtain ⟨p, hep, hp, hcp⟩ := hold 7 (by omega) (by omega)
        obtain ⟨q, heq, hq, hcq⟩ := hold 16 (by omega) (by omega)
        obtain ⟨x7, hx7⟩ : ∃ a, a = rotrL x 1 := ⟨_, rfl⟩
        obtain ⟨x18, hx18⟩ : ∃ a, a = rotrL x 8 := ⟨_, rfl⟩
        obtain ⟨x3, hx3⟩ : ∃ a, a = x / 2 ^ 7 := ⟨_, rfl⟩
        obtain ⟨y17, hy17⟩ : ∃ a, a = rotrL y 19 := ⟨_, rfl⟩
        obtain ⟨y19, hy19⟩ : ∃ a, a = rotrL y 61 := ⟨_, rfl⟩
        obtain ⟨y10, hy10⟩ : ∃ a, a = y / 2 ^ 6 := ⟨_, rfl⟩
        have HT7 := hid (turn3_l x 1 1 x7 hx (by omega) rfl hx7)
        have HT18 := hid (turn3_l x 8 8 x18 hx (by omega) rfl hx18)
        have HT3 := hid (shift3_l x 7 7 x3 (by omega) (by omega) rfl hx3)
        have HT17 := hid (turn3_l y 19 19 y17 hy (by omega) rfl hy17)
        have HT19 := hid (turn3_l y 61 61 y19 hy (by omega) rfl hy19)
        have HT10 := hid (shift3_l y 6 6 y10 (by omega) (by omega) rfl hy10)
        obtain ⟨a0, ha0⟩ : ∃ a, a = s0L x := ⟨_, rfl⟩
        obtain ⟨a1, ha1⟩ : ∃ a, a = s1L y := ⟨_, rfl⟩
        have ha0l : a0 < 18446744073709551616 := by rw [ha0]; exact s0L_lt x hx
        have ha1l : a1 < 18446744073709551616 := by rw [ha1]; exact s1L_lt y hy
        have e0 : bits .xor .u64 (bits .xor .u64 (x7 : Int) (x18 : Int)) (x3 : Int) = (a0 : Int) := by
          rw [xor3L_u64 _ _ _ (by rw [hx7]; have := rotrL_lt x 1 hx (by omega); omega) (by rw [hx18]; have := rotrL_lt x 8 hx (by omega); omega) (by rw [hx3]; omega), ha0, hx7, hx18, hx3]; rfl
        have e1 : bits .xor .u64 (bits .xor .u64 (y17 : Int) (y19 : Int)) (y10 : Int) = (a1 : Int) := by
          rw [xor3L_u64 _ _ _ (by rw [hy17]; have := rotrL_lt y 19 hy (by omega); omega) (by rw [hy19]; have := rotrL_lt y 61 hy (by omega); omega) (by rw [hy10]; omega), ha1, hy17, hy19, hy10]; rfl
        obtain ⟨u1, hu1⟩ : ∃ u, u = (a1 + p) % 18446744073709551616 := ⟨_, rfl⟩
        obtain ⟨u2, hu2⟩ : ∃ u, u = (u1 + a0) % 18446744073709551616 := ⟨_, rfl⟩
        obtain ⟨r, hr⟩ : ∃ r, r = (u2 + q) % 18446744073709551616 := ⟨_, rfl⟩
        have f1 : IntKind.u64.wrap ((a1 : Int) + (p : Int)) = (u1 : Int) := addL_u64 _ _ _ hu1
        have f2 : IntKind.u64.wrap ((u1 : Int) + (a0 : Int)) = (u2 : Int) := addL_u64 _ _ _ hu2
        have f3 : IntKind.u64.wrap ((u2 : Int) + (q : Int)) = (r : Int) := addL_u64 _ _ _ hr
        have hnext : r = (s1L y + p + s0L x + q) % 18446744073709551616 := by rw [← ha0, ← ha1]; omega
        have HX := hid hex; have HY := hid hey; have HP := hid hep; have HQ := hid heq; have HNEXT := hid hnext
        have q1 : IntKind.i64.wrap ((t : Int) - 7) = (t : Int) - 7 := IntWalk.i64_in _ (by omega)
        have q2 : (7 : Int) ≤ (t : Int) := by omega
        have q3 : (t : Int) - 7 < (t : Int) := by omega
        have q4 : ((t : Int) - 7).toNat = t - 7 := by omega
        have q5 : IntKind.i64.wrap ((t : Int) - 16) = (t : Int) - 16 := IntWalk.i64_in _ (by omega)
        have q6 : (16 : Int) ≤ (t : Int) := by omega
        have q7 : (t : Int) - 16 < (t : Int) := by omega
        have q8 : ((t : Int) - 16).toNat = t - 16 := by omega
        have q9 : IntKind.i64.wrap ((t : Int) - 2) = (t : Int) - 2 := IntWalk.i64_in _ (by omega)
        have q10 : (2 : Int) ≤ (t : Int) := by omega
        have q11 : (t : Int) - 2 < (t : Int) := by omega
        have q12 : ((t : Int) - 2).toNat = t - 2 := by omega
        have q13 : IntKind.i64.wrap ((t : Int) - 15) = (t : Int) - 15 := IntWalk.i64_in _ (by omega)
        have q14 : (15 : Int) ≤ (t : Int) := by omega
        have q15 : (t : Int) - 15 < (t : Int) := by omega
        have q16 : ((t : Int) - 15).toNat = t - 15 := by omega
        clear hold hex hey hep heq hx7 hx18 hx3 hy17 hy19 hy10 ha0 ha1 hu1 hu2 hr hnext ha0l ha1l
        go_wp2
        go_quiet (first | (go_at_call 61; first | with_reducible exact HT7.out _ _ | with_reducible exact HT18.out _ _) | (go_at_call 62; with_reducible exact HT3.out _ _))
        obtain ⟨wa, hwa⟩ : ∃ wa : World, wa = wt.drewN nq := ⟨_, rfl⟩
        replace hcy : wa.cell? ⟨g6, t - 2, none⟩ = some (.int .u64 (y : Int)) := by rw [hwa]; exact hcy
        replace hcp : wa.cell? ⟨g6, t - 7, none⟩ = some (.int .u64 (p : Int)) := by rw [hwa]; exact hcp
        replace hcq : wa.cell? ⟨g6, t - 16, none⟩ = some (.int .u64 (q : Int)) := by rw [hwa]; exact hcq
        rw [← hwa]
        have HWA := hid hwa
        clear hwa hcx
        go_wp2
        go_quiet (first | (go_at_call 61; first | with_reducible exact HT17.out _ _ | with_reducible exact HT19.out _ _) | (go_at_call 62; with_reducible exact HT10.out _ _))
        obtain ⟨wc, hwc⟩ : ∃ wc : World, wc = wa.drewN nq := ⟨_, rfl⟩
        replace hcp : wc.cell? ⟨g6, t - 7, none⟩ = some (.int .u64 (p : Int)) := by rw [hwc]; exact hcp
        replace hcq : wc.cell? ⟨g6, t - 16, none⟩ = some (.int .u64 (q : Int)) := by rw [hwc]; exact hcq
        rw [← hwc]
        have HWC := hid hwc
        clear hwc
        go_wp2
        go_quiet (fail)
        obtain ⟨ne, hne⟩ : ∃ ne, ne = nq := ⟨_, rfl⟩
        rw [← hne]
        clear hne
        clear q1 q2 q3 q4 q5 q6 q7 q8 q9 q10 q11 q12 q13 q14 q15 q16 f1 f2 f3 e0 e1 hcy hcp hcq hx hy hp hq
        obtain ⟨wq, hwq, hwn⟩ : ∃ wq : World, wq = wc.drewN ne ∧ ∃ n, wq = wt.drewN n := ⟨_, rfl, _, by rw [HWC.out, HWA.out, World.drewN_drewN, World.drewN_drewN]⟩
        rw [← hwq]
        have hBq : Below wb.heap.size wb wq := by obtain ⟨n, rfl⟩ := hwn; exact below_drewN HB.out n
        have hOq : wq.ownsRow wb.heap.size 28 1 (.slice (some ⟨g6, 0, none⟩) t c6) t (uvs xs) := by obtain ⟨n, rfl⟩ := hwn; exact HO.out
        have HO2' := hid (World.ownsRow.alloc hOq (.cells #[.int .u64 (r : Int)] 28))
        have HBQ := hid hBq
        clear hwq hwn hBq hOq HT7 HT18 HT3 HT17 HT19 HT10
        go_wp2_with (at_builtin; go_loud (refine wpList_append_lie rfl (.tmp 178) (.tmp 180) 80 rfl wb.heap.size 28 (.int .u64 0) 8 Tryz.underlying80 infoU64 rfl rfl HO2'.out rfl rfl (Lie.new1 _ _ _) ?l0 ?l1 ?l2 ?l3 ?_))
        case l0 => intros; first | rfl | (rename_i hu; simp at hu; subst hu; rfl)
        case l1 => try rw [List.length_singleton]
                   unfold maxLen; omega
        case l2 => try rw [List.length_singleton]
                   omega
        case l3 => (have := HBQ.out.size; simp; omega)
        intro v5 w5 hown5 hg5 _
        have hO5 : OwnU w5 wb.heap.size v5 (wordsToL m (t + 1)) := by
          rw [wordsToL_high m t ht16, ← HXS.out, ← HX.out, ← HY.out, ← HP.out, ← HQ.out, ← HNEXT.out]
          exact ownu_snoc hown5 (by rw [HXL.out]) rfl
        have hB5 : Below wb.heap.size wb w5 := (HBQ.out.alloc HBQ.out.size _).grown hg5 (by have := HBQ.out.size; simp; omega) (fun q h => own_lt HO2'.out q h)
        have HO5 := hid hO5; have HB5 := hid hB5
        clear hown5 hg5 hO5 hB5 HO2'
        go_wp2
        have ht := HT.out
        go_roundg (80 - t - 1)
        case measure => omega
        case rel => exact ⟨t + 1, by omega, by go_num, HO5.out, HB5.out⟩
      · obtain rfl : t = 80 := by omega
        have hti64 : ¬ ((80 : Nat) : Int) < 80 := by omega
        have ho : OwnU wt wb.heap.size (.slice A6 80 c6) (wordsToL m 80) := by
          rw [← HXS.out]
          have h := HO.out
          unfold OwnU
          rw [HXL.out]
          exact h
        have HO6 := hid ho
        clear ho HO HS6 HXS HXL
        go_wp2
        exact hexit _ wt _ _ _ _ _ _ _ _ _ _ _ _ _ _ _ _ _ _ _ _ _ _ _ _ _ _ _ _ _ _ _ _ _ _ _ _ _ _ _ _ _ _ _ _ _ _ _ _ _ _ _ _ _ _ _ _ _ _ _ _ _ _ _ _ _ _ _ _ _ _ _ _ _ _ _ _ _ _ _ _ _ _ _ _ _ _ _ HO6.out HB.out
end Go.Proofs.YtheamlhhfkaknaaGreatDoor
end
section
namespace Go.Proofs.YtheamlhhfkaknaaGreatDoor
open Go.RowKit
set_option linter.unusedVariables false
set_option linter.unusedSimpArgs false
theorem div_pow256 (N i : Nat) : N / 256 ^ i / 256 = N / 256 ^ (i + 1) := by rw [Nat.div_div_eq_div_mul, Nat.pow_succ]
set_option maxHeartbeats 1000000 in
theorem Bytes6_any (N n : Nat) (A : Option Addr) (c : Nat) (w : World) (hS : Sq w w.heap.size A c (ivs (dg N))) (hN : N < 32768 ^ 50) (hn : n ≤ 1000) :
    Calls Tryz.prog 17 #[.slice A (dg N).length c, .int .i64 (n : Int)] w fun e w' => ∃ v, e = .returned v ∧ OwnB w' w.heap.size v (leB n N) ∧ Below w.heap.size w w' := by
  have HS := hid hS
  have HN : Hid (∀ W, Calls Tryz.prog 41 #[.int .u64 256] W (BigR W 256)) := hid fun W => Num_any 256 W (by omega)
  have HL256 := hid (Nat.le_trans (dgl6 256 (by decide +kernel)) (show 50 ≤ 1048576 by omega))
  have HD := hid (fun i => dgl6 (N / 256 ^ i) (Nat.lt_of_le_of_lt (Nat.div_le_self _ _) hN))
  have hd0 : N / 256 ^ 0 = N := by rw [Nat.pow_zero, Nat.div_one]
  have HD0 := hid hd0
  clear hS hN hd0
  go_enter Tryz.func17, Tryz.ntmps17
  go_wp2
  go_loopg [0, 5, 6] n (fun g a v i wr => ∃ (k : Nat) (A1 : Option Addr) (c1 : Nat), k + g = n ∧ i = .int .i64 (k : Int) ∧ a = .slice A1 (dg (N / 256 ^ k)).length c1 ∧ Sq wr wr.heap.size A1 c1 (ivs (dg (N / 256 ^ k))) ∧ OwnB wr w.heap.size v (leB k N) ∧ Below w.heap.size w wr)
  case atStart => exact ⟨0, A, c, by omega, rfl, by rw [HD0.out], by rw [HD0.out]; exact HS.out, World.ownsRow_nil w w.heap.size 5 1, Below.refl _ _⟩
  case round =>
    obtain ⟨k, A1, c1, hk, rfl, rfl, hS1, ho, hb⟩ := hrel
    have HS1 := hid hS1; have HK := hid hk; have HB := hid hb; have HO := hid ho
    have hkn : k ≤ n := by omega
    clear hS1 hk hb ho HS
    by_cases hlt : k < n
    · have hx : (k : Int) < (n : Int) := by omega
      obtain ⟨M, hM⟩ : ∃ M, M = N / 256 ^ k := ⟨_, rfl⟩
      have hML : (dg M).length ≤ 1048576 := by rw [hM]; exact Nat.le_trans (HD.out k) (by omega)
      rw [← hM] at HS1 ⊢
      have HM := hid hM; have HML := hid hML
      clear hM hML
      go_wp2_with fail
      refine (HN.out _).mono ?_
      rintro e w1 ⟨A2, c2, rfl, hS2, hb2⟩
      have HS2 := hid hS2; have HS12 := hid (HS1.out.on6 hb2); have HB2 := hid (HB.out.trans (hb2.mono HB.out.size))
      have HO2 : Hid (OwnB w1 w.heap.size u5 (leB k N)) := hid (World.ownsRow.kept HO.out (grownF hb2) (Classical.em _))
      clear hS2 hb2 HB HO
      go_wp2_with fail
      have hown_lt := World.ownsRow.lt HO2.out
      refine (Div_at M 256 A1 A2 c1 c2 w1 HS12.out HS2.out HML.out HL256.out (by omega)).mono ?_
      rintro e w2 ⟨c3, A4, c4, rfl, hS3, hS4, hb3⟩
      have HS3 := hid hS3; have HS4 := hid hS4; have HB3 := hid (HB2.out.trans (hb3.mono HB2.out.size))
      have HO3 : Hid (OwnB w2 w.heap.size u5 (leB k N)) := hid (World.ownsRow.kept HO2.out (grownF hb3) (Classical.em _))
      clear hS3 hS4 hb3 HB2 HO2 HS12 HS2 HS1
      obtain ⟨r, hr⟩ : ∃ r, r = M % 256 := ⟨_, rfl⟩
      have hr256 : r < 256 := by omega
      rw [← hr] at HS4 ⊢
      have HR := hid hr
      clear hr
      go_wp2_with fail
      refine (Low_any r A4 c4 w2.heap.size w2 HS4.out (by omega)).mono ?_
      rintro e w3 ⟨rfl, rfl⟩
      have hrm : (r : Int) % 256 = (r : Int) := by omega
      have hrw : IntKind.u8.wrap (r : Int) = (r : Int) := by rw [IntKind.wrap_u8]; omega
      have hsz := HB3.out.size
      have ho3 := HO3.out
      go_wp2_with (at_builtin; refine wpList_append_lie rfl (.tmp 20) (.tmp 24) 22 rfl w.heap.size 5 (.int .u8 0) 1 Tryz.underlying22 infoU8 rfl rfl (World.ownsRow.alloc ho3 _) rfl rfl (Lie.new1 _ _ _) ?d0 ?d1 ?d2 ?d3 ?_)
      case d0 => intro u hu; simp at hu; subst hu; rfl
      case d1 => rw [List.length_singleton]; unfold maxLen; simp; omega
      case d2 => rw [List.length_singleton]; simp; omega
      case d3 => simp; omega
      intro v2 w4 hown4 hg4 _
      have hO : OwnB w4 w.heap.size v2 (leB (k + 1) N) := by
        rw [leB_snoc]
        refine own_snoc hown4 (by simp) ?_
        rw [ofNat_val, ← HM.out]
        have := HR.out
        omega
      have hB4 : Below w.heap.size w w4 := (HB3.out.alloc hsz _).grown hg4 (by simp; omega) (fun q h => own_lt (World.ownsRow.alloc ho3 (.cells #[.int .u8 ((r : Nat) : Int)] 5)) q h)
      have hS5 : Sq w4 w4.heap.size (some ⟨w1.heap.size, 0, none⟩) c3 (ivs (dg (M / 256))) := by
        have h1 : Sq (w2.alloc (.cells #[.int .u8 ((r : Nat) : Int)] 5)) w2.heap.size (some ⟨w1.heap.size, 0, none⟩) c3 (ivs (dg (M / 256))) := HS3.out.alloc (Nat.le_refl _) _
        rcases h1 with ⟨h1, h2⟩ | ⟨b', o', hA, hb', hc1, hc2, hcell⟩
        · exact .inl ⟨h1, h2⟩
        · simp only [Option.some.injEq, Addr.mk.injEq] at hA
          obtain ⟨rfl, rfl, _⟩ := hA
          refine .inr ⟨w1.heap.size, 0, rfl, by have := hg4.size; simp at this; omega, hc1, hc2, fun j u hu => ?_⟩
          refine (World.cell?_of_block (a := ⟨w1.heap.size, 0 + j, none⟩) (hg4.block w1.heap.size (by simp; omega) (fun e => ?_))).trans (hcell j u hu)
          have := (hown_lt _ e.symm).2
          omega
      have HS5 := hid hS5; have HO4 := hid hO; have HB4 := hid hB4
      clear hS5 hO hB4 hown4 hg4 ho3 HS3 HS4 HB3 HO3 hown_lt
      have hdiv := div_pow256 N k
      rw [← HM.out] at hdiv
      rw [hdiv] at HS5 ⊢
      clear hdiv
      go_wp2
      have hk := HK.out
      go_roundg (n - k - 1)
      case measure => omega
      case rel => exact ⟨k + 1, _, c3, by omega, by go_num, rfl, HS5.out, HO4.out, HB4.out⟩
    · obtain rfl : k = n := by omega
      have hx : ¬ (k : Int) < (k : Int) := by omega
      go_wp2
      go_ret
      exact ⟨_, rfl, HO.out, HB.out⟩
end Go.Proofs.YtheamlhhfkaknaaGreatDoor
end
