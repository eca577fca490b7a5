/-
  Texts of this claim in one file: Ref06o, Ref08, Ref02b, Ref10, Ref06p, Ref05, Ref01, Ref05b.
-/
import Derived.Test.YtheamlhhfkaknaaGreatDoorPk0
import Derived.Test.YtheamlhhfkaknaaGreatDoorPk32
import Derived.Test.YtheamlhhfkaknaaGreatDoorPk33
import Derived.Test.YtheamlhhfkaknaaGreatDoorPk5
import Derived.Test.YtheamlhhfkaknaaGreatDoorPk4
import Derived.Test.YtheamlhhfkaknaaGreatDoorPk28
import Derived.Test.YtheamlhhfkaknaaGreatDoorPk30
import Derived.Test.YtheamlhhfkaknaaGreatDoorPk2
import Derived.Test.YtheamlhhfkaknaaGreatDoorPk12
import Derived.Laws.CopyRow
import Derived.Test.YtheamlhhfkaknaaGreatDoorPk45
import Derived.Test.YtheamlhhfkaknaaGreatDoorPk14
import Derived.Test.YtheamlhhfkaknaaGreatDoorPk13
section
namespace Go.Proofs.YtheamlhhfkaknaaGreatDoor
open Go.RowKit
set_option linter.unusedVariables false
set_option linter.unusedSimpArgs false
set_option exponentiation.threshold 2000
theorem leN_drop (xs : List UInt8) (k : Nat) (h : k < xs.length) : leN (xs.drop k) = leN (xs.drop (k + 1)) * 256 + xs[k].toNat := by
  rw [List.drop_eq_getElem_cons h, leN]; omega
theorem leN_dig7 (xs : List UInt8) (k : Nat) (h : xs.length ≤ 1000) : leN (xs.drop k) < 32768 ^ 600 := by
  have h1 := leN_lt (xs.drop k)
  have h2 : 256 ^ (xs.drop k).length ≤ 256 ^ 1000 := Nat.pow_le_pow_right (by omega) (by rw [List.length_drop]; omega)
  have h3 : (256 : Nat) ^ 1000 < 32768 ^ 600 := by
    rw [show (1000 : Nat) = 200 * 5 from rfl, show (600 : Nat) = 200 * 3 from rfl, Nat.pow_mul', Nat.pow_mul']
    exact Nat.pow_lt_pow_left (by decide +kernel) (by omega)
  exact Nat.lt_of_lt_of_le (Nat.lt_of_lt_of_le h1 h2) (Nat.le_of_lt h3)
theorem dgl7 (N : Nat) (h : N < 32768 ^ 600) : (dg N).length ≤ 1073741824 := Nat.le_trans ((dg_length_le N 600).2 h) (by omega)
set_option maxHeartbeats 1000000 in
theorem Of6_any (A : Option Addr) (xs : List UInt8) (c : Nat) (w : World) (hS : Sq w w.heap.size A c (bvs xs)) (hl : xs.length ≤ 1000) :
    Calls Tryz.prog 27 #[.slice A xs.length c] w (BigR w (leN xs)) := by
  have HS := hid hS
  have HN : Hid (∀ W, Calls Tryz.prog 41 #[.int .u64 256] W (BigR W 256)) := hid fun W => Num_any 256 W (by omega)
  have HL256 := hid (dgl7 256 (by decide +kernel))
  have HDL := hid (fun k => leN_dig7 xs k hl)
  have hd0 : leN (xs.drop 0) = leN xs := by rw [List.drop_zero]
  obtain ⟨L, hL⟩ : ∃ L, L = leN xs := ⟨_, rfl⟩
  rw [← hL] at hd0 ⊢
  have HD0 := hid hd0
  have hw1 : IntKind.i64.wrap ((xs.length : Int) - 1) = (xs.length : Int) - 1 := IntWalk.i64_in _ (by omega)
  clear hS hd0 hL
  go_enter Tryz.func27, Tryz.ntmps27
  go_wp2
  clear hw1
  go_loopg [3, 4] xs.length (fun g v i wr => ∃ (k : Nat) (A1 : Option Addr) (c1 : Nat), v = .slice A1 (dg (leN (xs.drop k))).length c1 ∧ Sq wr wr.heap.size A1 c1 (ivs (dg (leN (xs.drop k)))) ∧ g = k ∧ k ≤ xs.length ∧ i = .int .i64 ((k : Int) - 1) ∧ Below w.heap.size w wr)
  case atStart => exact ⟨xs.length, none, 0, by rw [List.drop_length, leN, dg_zero]; rfl, by rw [List.drop_length, leN, dg_zero]; exact Sq.nil, rfl, Nat.le_refl _, rfl, Below.refl _ _⟩
  case round =>
    obtain ⟨k, A1, c1, rfl, hS1, hg, hk, rfl, hb⟩ := hrel
    have HS1 := hid hS1; have HG := hid hg; have HB := hid hb
    clear hS1 hg hb
    rcases k with _ | k
    · have hx : ¬ (0 : Int) ≤ ((0 : Nat) : Int) - 1 := by omega
      rw [HD0.out] at HS1 ⊢
      go_wp2
      go_ret
      exact ⟨A1, c1, rfl, HS1.out, HB.out⟩
    · have hx : (0 : Int) ≤ ((k + 1 : Nat) : Int) - 1 := by omega
      have hkl : k < xs.length := by omega
      have hk1 : ((k + 1 : Nat) : Int) - 1 = (k : Int) := by omega
      rw [hk1] at hx ⊢
      have hk0 : (k : Int) < (xs.length : Int) := by omega
      obtain ⟨b, o, rfl, hbl, hcell⟩ := ((HS.out.below HB.out).lie).byte hkl
      have hnx := leN_drop xs k hkl
      obtain ⟨y, hy⟩ : ∃ y, y = xs[k] := ⟨_, rfl⟩
      rw [← hy] at hcell hnx
      obtain ⟨M, hM⟩ : ∃ M, M = leN (xs.drop (k + 1)) := ⟨_, rfl⟩
      obtain ⟨M2, hM2⟩ : ∃ M2, M2 = leN (xs.drop k) := ⟨_, rfl⟩
      have hMl : M < 32768 ^ 600 := by rw [hM]; exact HDL.out _
      have hM2l : M2 < 32768 ^ 600 := by rw [hM2]; exact HDL.out _
      rw [← hM] at HS1 hnx ⊢
      rw [← hM2] at hnx
      have hyl := y.toNat_lt
      have hyw : IntKind.u64.wrap (y.toNat : Int) = (y.toNat : Int) := by rw [IntKind.wrap_u64]; omega
      have HY : Hid (∀ W, Calls Tryz.prog 41 #[.int .u64 (y.toNat : Int)] W (BigR W y.toNat)) := hid fun W => Num_any y.toNat W (by omega)
      have MU : Hid (∀ W A c, Below wr.heap.size wr W → Sq W W.heap.size A c (ivs (dg 256)) → Calls Tryz.prog 20 #[.slice A1 (dg M).length c1, .slice A (dg 256).length c] W (BigR W (M * 256))) := hid fun W A c hB hS =>
        Mul_any M 256 A1 A c1 c W (HS1.out.on6 hB) hS (dgl7 M hMl) HL256.out
      have AD : Hid (∀ W A c A' c', Sq W W.heap.size A c (ivs (dg (M * 256))) → Sq W W.heap.size A' c' (ivs (dg y.toNat)) → Calls Tryz.prog 19 #[.slice A (dg (M * 256)).length c, .slice A' (dg y.toNat).length c'] W (BigR W M2)) := hid fun W A c A' c' hS hS' => by
        have h := Add_any (M * 256) y.toNat A A' c c' W hS hS' (dgl7 _ (by omega)) (dgl7 _ (by omega))
        rw [← hnx] at h
        exact h
      have CK : Hid (∀ W, Below wr.heap.size wr W → W.cell? ⟨b, o + k, none⟩ = some (.int .u8 (y.toNat : Int)) ∧ Below wr.heap.size wr W) := hid fun W h => ⟨(h.cell (p := ⟨b, o + k, none⟩) (by have := HB.out.size; simp only; omega)).trans hcell, h⟩
      have HM2 := hid hM2
      clear hM hM2 hMl hM2l hnx hy hyl hcell
      go_wp2_with fail
      go_region_held3 (fun w' => w'.cell? ⟨b, o + k, none⟩ = some (.int .u8 (y.toNat : Int)) ∧ Below wr.heap.size wr w')
        (first
          | exact CK.out _ hB9 | exact CK.out _ hB8 | exact CK.out _ hB7 | exact CK.out _ hB6
          | exact CK.out _ (Below.refl _ _).drew)
        (first
          | (go_at_call 41; (with_reducible refine Calls.mono (HN.out _) ?_); rintro e w6 ⟨A6, c6, rfl, hS6, hb6⟩; have hB6 : Below wr.heap.size wr w6 := (Below.refl _ wr).drew.trans (hb6.mono (Nat.le_refl _)))
          | (go_at_call 20; refine (MU.out _ _ _ hB6 hS6).mono ?_; rintro e w7 ⟨A7, c7, rfl, hS7, hb7⟩; have hB7 := hB6.trans (hb7.mono hB6.size))
          | (go_at_call 41; (with_reducible refine Calls.mono (HY.out _) ?_); rintro e w8 ⟨A8, c8, rfl, hS8, hb8⟩; have hB8 := hB7.trans (hb8.mono hB7.size); have hS78 := hS7.on6 hb8)
          | (go_at_call 19; refine (AD.out _ _ _ _ _ hS78 hS8).mono ?_; rintro e w9 ⟨A9, c9, rfl, hS9, hb9⟩; have hB9 := hB8.trans (hb9.mono hB8.size)))
      have HS9 := hid hS9
      have HB9 := hid (HB.out.trans (hB9.mono HB.out.size))
      clear hS6 hb6 hB6 hS7 hb7 hB7 hS8 hb8 hB8 hS78 hS9 hb9 hB9 HY MU AD CK
      go_wp2
      have hg := HG.out
      go_roundg k
      case measure => omega
      case rel => exact ⟨k, A9, c9, by rw [← HM2.out], by rw [← HM2.out]; exact HS9.out, rfl, by omega, by go_num, HB9.out⟩
end Go.Proofs.YtheamlhhfkaknaaGreatDoor
end
section
namespace Go.Proofs.YtheamlhhfkaknaaGreatDoor
open Go.RowKit
set_option linter.unusedVariables false
set_option linter.unusedSimpArgs false
set_option exponentiation.threshold 2000
/-- The digits, as bytes. -/
def dgS : List UInt8 := [50, 55, 55, 52, 50, 51, 49, 55, 55, 55, 55, 51, 55, 50, 51, 53, 51, 53, 51, 53, 56, 53, 49, 57, 51, 55, 55, 57, 48, 56, 56, 51, 54, 52, 56, 52, 57, 51]
def prefS (k : Nat) : Nat := (dgS.take k).foldl (fun n d => n * 10 + (d.toNat - 48)) 0
theorem prefS_zero : prefS 0 = 0 := rfl
theorem prefS_end : prefS 38 = 27742317777372353535851937790883648493 := by decide +kernel
theorem prefS_next (k : Nat) (h : k < 38) : prefS (k + 1) = prefS k * 10 + ((dgS.getD k 0).toNat - 48) ∧ 48 ≤ (dgS.getD k 0).toNat ∧ (dgS.getD k 0).toNat ≤ 57 := by
  have : ∀ k : Fin 38, prefS (k.val + 1) = prefS k.val * 10 + ((dgS.getD k.val 0).toNat - 48) ∧ 48 ≤ (dgS.getD k.val 0).toNat ∧ (dgS.getD k.val 0).toNat ≤ 57 := by decide +kernel
  exact this ⟨k, h⟩
theorem prefS_lt (k : Nat) (h : k ≤ 38) : prefS k < 32768 ^ 50 := by
  have : ∀ k : Fin 39, prefS k.val < 32768 ^ 50 := by decide +kernel
  exact this ⟨k, by omega⟩
def dgB : ByteArray := ⟨⟨dgS⟩⟩
theorem dgB_size : dgB.size = 38 := rfl
theorem index_dgB (W : World) (k : Nat) (h : k < 38) : (Instr.index 9 (.string dgB) (.int .i64 (k : Int))).run Tryz.prog W = .ok (.int .u8 ((dgS.getD k 0).toNat : Int)) W := by
  have hu : Tryz.prog.underlying 9 = some .string := by kernel_rfl
  have hi : (0 : Int) ≤ (k : Int) ∧ (k : Int) < (dgB.size : Int) := by rw [dgB_size]; omega
  rw [run_index_string W 9 dgB .i64 (k : Int) hu, dif_pos hi]
  have e : ∀ (j : Nat) (hj : j < dgB.size), dgB[j] = dgS.getD j 0 := fun j hj => by
    rw [dgB_size] at hj
    have : ∀ j : Fin 38, dgB[j.val]'(by rw [dgB_size]; exact j.isLt) = dgS.getD j.val 0 := by decide +kernel
    exact this ⟨j, hj⟩
  have e2 := e (k : Int).toNat (by rw [dgB_size]; omega)
  rw [e2, Int.toNat_natCast]
set_option maxHeartbeats 1000000 in
theorem Order_any (w : World) : Calls Tryz.prog 28 #[] w (BigR w ordL) := by
  have HN : Hid (∀ W, Calls Tryz.prog 41 #[.int .u64 10] W (BigR W 10)) := hid fun W => Num_any 10 W (by omega)
  have HP : Hid (∀ W, Calls Tryz.prog 52 #[.int .i64 252] W (BigR W (2 ^ 252))) := hid fun W => Pow_any 252 W (by omega)
  have bl : ∀ N, N < 32768 ^ 50 → (dg N).length ≤ 1073741824 := fun N h => Nat.le_trans (dgl6 N h) (by omega)
  have h10 := bl 10 (by decide +kernel)
  have H10 := hid h10
  have h252 := bl (2 ^ 252) (by decide +kernel)
  have HAD : Hid (∀ W A c A' c', Sq W W.heap.size A c (ivs (dg (2 ^ 252))) → Sq W W.heap.size A' c' (ivs (dg (prefS 38))) → Calls Tryz.prog 19 #[.slice A (dg (2 ^ 252)).length c, .slice A' (dg (prefS 38)).length c'] W (BigR W ordL)) := hid fun W A c A' c' h h' => by
    have h := Add_any (2 ^ 252) (prefS 38) A A' c c' W h h' h252 (bl _ (prefS_lt 38 (Nat.le_refl _)))
    rw [ordL_def, ← prefS_end]
    exact h
  obtain ⟨T, hT⟩ : ∃ T, T = 2 ^ 252 := ⟨_, rfl⟩
  rw [← hT] at HP HAD
  have HBL := hid bl
  clear hT h252 h10 bl
  go_enter Tryz.func28, Tryz.ntmps28
  go_wp2
  rw [show Value.string ⟨(50 :: 55 :: 55 :: 52 :: 50 :: 51 :: 49 :: 55 :: 55 :: 55 :: 55 :: 51 :: 55 :: 50 :: 51 :: 53 :: 51 :: 53 :: 51 :: 53 :: 56 :: 53 :: 49 :: 57 :: 51 :: 55 :: 55 :: 57 :: 48 :: 56 :: 56 :: 51 :: 54 :: 52 :: 56 :: 52 :: 57 :: 51 :: []).toArray⟩ = Value.string dgB from rfl]
  go_loopg [1, 3] 38 (fun g v i wr => ∃ (k : Nat) (A1 : Option Addr) (c1 : Nat), k + g = 38 ∧ i = .int .i64 (k : Int) ∧ v = .slice A1 (dg (prefS k)).length c1 ∧ Sq wr wr.heap.size A1 c1 (ivs (dg (prefS k))) ∧ Below w.heap.size w wr)
  case atStart => exact ⟨0, none, 0, rfl, rfl, by rw [prefS_zero, dg_zero]; rfl, by rw [prefS_zero, dg_zero]; exact Sq.nil, Below.refl _ _⟩
  case round =>
    obtain ⟨k, A1, c1, hk, rfl, rfl, hS1, hb⟩ := hrel
    have hsz := dgB_size
    have HS1 := hid hS1; have HK := hid hk; have HB := hid hb
    have hk38 : k ≤ 38 := by omega
    clear hS1 hk hb
    by_cases hlt : k < 38
    · have hx : (k : Int) < 38 := by omega
      have hk0 : (0 : Int) ≤ (k : Int) := by omega
      obtain ⟨hnx, hd1, hd2⟩ := prefS_next k hlt
      have hix := fun W => index_dgB W k hlt
      have hpl := prefS_lt k hk38
      have hpl1 := prefS_lt (k + 1) hlt
      obtain ⟨d, hd⟩ : ∃ d, d = (dgS.getD k 0).toNat := ⟨_, rfl⟩
      rw [← hd] at hnx hd1 hd2
      simp only [← hd] at hix
      obtain ⟨M, hM⟩ : ∃ M, M = prefS k := ⟨_, rfl⟩
      obtain ⟨M2, hM2⟩ : ∃ M2, M2 = prefS (k + 1) := ⟨_, rfl⟩
      rw [← hM] at HS1 hnx hpl ⊢
      rw [← hM2] at hnx hpl1
      obtain ⟨q, hq⟩ : ∃ q, q = d - 48 := ⟨_, rfl⟩
      rw [← hq] at hnx
      have hdw : IntKind.u64.wrap (d : Int) = (d : Int) := by rw [IntKind.wrap_u64]; omega
      have hqw : IntKind.u64.wrap ((d : Int) - 48) = (q : Int) := by rw [IntKind.wrap_u64]; omega
      have HQ : Hid (∀ W, Calls Tryz.prog 41 #[.int .u64 (q : Int)] W (BigR W q)) := hid fun W => Num_any q W (by omega)
      have MU : Hid (∀ W A c, Below wr.heap.size wr W → Sq W W.heap.size A c (ivs (dg 10)) → Calls Tryz.prog 20 #[.slice A1 (dg M).length c1, .slice A (dg 10).length c] W (BigR W (M * 10))) := hid fun W A c hB hS =>
        Mul_any M 10 A1 A c1 c W (HS1.out.on6 hB) hS (HBL.out M hpl) H10.out
      have AD : Hid (∀ W A c A' c', Sq W W.heap.size A c (ivs (dg (M * 10))) → Sq W W.heap.size A' c' (ivs (dg q)) → Calls Tryz.prog 19 #[.slice A (dg (M * 10)).length c, .slice A' (dg q).length c'] W (BigR W M2)) := hid fun W A c A' c' hS hS' => by
        have h := Add_any (M * 10) q A A' c c' W hS hS' (HBL.out _ (by omega)) (HBL.out _ (Nat.lt_of_le_of_lt (show q ≤ 9 by omega) (by decide +kernel)))
        rw [← hnx] at h
        exact h
      have HM2 := hid hM2
      clear hM hM2 hnx hd hd1 hd2 hpl hpl1 hq
      go_wp2_with fail
      go_region_held3 (fun w' => Below wr.heap.size wr w')
        (first
          | exact hB9 | exact hB8 | exact hB7 | exact hB6
          | exact (Below.refl _ _).drew)
        (first
          | (go_at_call 41; (with_reducible refine Calls.mono (HN.out _) ?_); rintro e w6 ⟨A6, c6, rfl, hS6, hb6⟩; have hB6 : Below wr.heap.size wr w6 := (Below.refl _ wr).drew.trans (hb6.mono (Nat.le_refl _)))
          | (go_at_call 20; refine (MU.out _ _ _ hB6 hS6).mono ?_; rintro e w7 ⟨A7, c7, rfl, hS7, hb7⟩; have hB7 := hB6.trans (hb7.mono hB6.size))
          | (go_at_call 41; (with_reducible refine Calls.mono (HQ.out _) ?_); rintro e w8 ⟨A8, c8, rfl, hS8, hb8⟩; have hB8 := hB7.trans (hb8.mono hB7.size); have hS78 := hS7.on6 hb8)
          | (go_at_call 19; refine (AD.out _ _ _ _ _ hS78 hS8).mono ?_; rintro e w9 ⟨A9, c9, rfl, hS9, hb9⟩; have hB9 := hB8.trans (hb9.mono hB8.size)))
      all_goals
        have HS9 := hid hS9
        have HB9 := hid (HB.out.trans (hB9.mono HB.out.size))
        clear hS6 hb6 hB6 hS7 hb7 hB7 hS8 hb8 hB8 hS78 hS9 hb9 hB9 HQ MU AD hix
        go_wp2
        have hk := HK.out
        go_roundg (38 - k - 1)
        case measure => omega
        case rel => exact ⟨k + 1, A9, c9, by omega, by go_num, by rw [← HM2.out], by rw [← HM2.out]; exact HS9.out, HB9.out⟩
    · obtain rfl : k = 38 := by omega
      have hx : ¬ ((38 : Nat) : Int) < 38 := by omega
      go_wp2_with fail
      refine (HP.out _).mono ?_
      rintro e w6 ⟨A6, c6, rfl, hS6, hb6⟩
      have HS6 := hid hS6; have HS16 := hid (HS1.out.on6 hb6); have HB6 := hid (HB.out.trans (hb6.mono HB.out.size))
      clear hS6 hb6 HS1 HB
      go_wp2_with fail
      refine (HAD.out _ _ _ _ _ HS6.out HS16.out).mono ?_
      rintro e w7 ⟨A7, c7, rfl, hS7, hb7⟩
      have HS7 := hid hS7; have HB7 := hid (HB6.out.trans (hb7.mono HB6.out.size))
      clear hS7 hb7
      go_wp2
      go_ret
      exact ⟨A7, c7, rfl, HS7.out, HB7.out⟩
end Go.Proofs.YtheamlhhfkaknaaGreatDoor
end
section
namespace Go.Proofs.YtheamlhhfkaknaaGreatDoor
section
open Go.RowKit
set_option linter.unusedVariables false
set_option linter.unusedSimpArgs false
end
section
open Go.RowKit
set_option linter.unusedVariables false
set_option linter.unusedSimpArgs false
/-- Block g holds the words xs from its beginning on. -/
def RowU (w : World) (g : Nat) (xs : List Nat) : Prop := ∃ cur : Array Value, w.heap[g]? = some (.cells cur 28 (0, 0)) ∧ ∀ (j x : Nat), xs[j]? = some x → cur[j]? = some (.int .u64 (x : Int))
section
variable {w w' : World} {g : Nat} {xs : List Nat}
theorem RowU.cell (h : RowU w g xs) {j x : Nat} (hx : xs[j]? = some x) : w.cell? ⟨g, j, none⟩ = some (.int .u64 (x : Int)) := by obtain ⟨cur, h1, h2⟩ := h; exact cell_of h1 j _ (h2 j x hx)
theorem RowU.set (h : RowU w g xs) (j y : Nat) (hj : j < xs.length) : RowU (w.setCell ⟨g, j, none⟩ (.int .u64 (y : Int))) g (xs.set j y) := by
  obtain ⟨cur, h1, h2⟩ := h
  have hc : j < cur.size := (Array.getElem?_eq_some_iff.1 (h2 j _ (List.getElem?_eq_getElem hj))).1
  refine ⟨_, block_set h1 j _, fun i x hx => ?_⟩
  rw [Array.getElem?_setIfInBounds]
  by_cases e : j = i
  · subst e
    rw [List.getElem?_set_self hj] at hx
    injection hx with hx
    rw [if_pos rfl, if_pos hc, hx]
  · rw [List.getElem?_set_ne e] at hx
    rw [if_neg e]; exact h2 i x hx
end
theorem RowU.lie {w : World} {g : Nat} {xs : List Nat} (h : RowU w g xs) : Lie w (g + 1) (some ⟨g, 0, none⟩) (uvs xs) := fun _ =>
  ⟨g, 0, rfl, by omega, fun j x hx => by
    rw [Nat.zero_add]
    have hj : j < xs.length := by
      have := (List.getElem?_eq_some_iff.1 hx).1
      simpa using this
    have h2 := h.cell (List.getElem?_eq_getElem hj)
    rw [h2, ← hx, uvs, List.getElem?_map, List.getElem?_eq_getElem hj]; rfl⟩
end
end Go.Proofs.YtheamlhhfkaknaaGreatDoor
end
section
namespace Go.Proofs.YtheamlhhfkaknaaGreatDoor
open Go Go.RowKit
set_option linter.unusedVariables false
set_option linter.unusedSimpArgs false
/-- The secret's bytes, out of a digest: 32 of them, clamped. -/
def clampS (ps : List UInt8) : List UInt8 := (((ps.set 0 (UInt8.ofNat ((ps.getD 0 0).toNat / 8 * 8))).set 31 (UInt8.ofNat ((ps.getD 31 0).toNat % 64 + 64)))).take 32
theorem longB_64 (xs : List UInt8) : (longB xs).length = 64 := longB_length xs
end Go.Proofs.YtheamlhhfkaknaaGreatDoor
end
section
namespace Go.Proofs.YtheamlhhfkaknaaGreatDoor
open Go.RowKit
set_option linter.unusedVariables false
set_option linter.unusedSimpArgs false
theorem div_pow256 (N i : Nat) : N / 256 ^ i / 256 = N / 256 ^ (i + 1) := by rw [Nat.div_div_eq_div_mul, Nat.pow_succ]
set_option maxHeartbeats 1000000 in
theorem Bytes6_any (N n : Nat) (A : Option Addr) (c : Nat) (w : World) (hS : Sq w w.heap.size A c (ivs (dg N))) (hN : N < 32768 ^ 50) (hn : n ≤ 1000) :
    Calls Tryz.prog 17 #[.slice A (dg N).length c, .int .i64 (n : Int)] w fun e w' => ∃ v, e = .returned v ∧ OwnB w' w.heap.size v (leB n N) ∧ Below w.heap.size w w' := by
  have HS := hid hS
  have HN : Hid (∀ W, Calls Tryz.prog 41 #[.int .u64 256] W (BigR W 256)) := hid fun W => Num_any 256 W (by omega)
  have HL256 := hid (Nat.le_trans (dgl6 256 (by decide +kernel)) (show 50 ≤ 1048576 by omega))
  have HD := hid (fun i => dgl6 (N / 256 ^ i) (Nat.lt_of_le_of_lt (Nat.div_le_self _ _) hN))
  have hd0 : N / 256 ^ 0 = N := by rw [Nat.pow_zero, Nat.div_one]
  have HD0 := hid hd0
  clear hS hN hd0
  go_enter Tryz.func17, Tryz.ntmps17
  go_wp2
  go_loopg [0, 5, 6] n (fun g a v i wr => ∃ (k : Nat) (A1 : Option Addr) (c1 : Nat), k + g = n ∧ i = .int .i64 (k : Int) ∧ a = .slice A1 (dg (N / 256 ^ k)).length c1 ∧ Sq wr wr.heap.size A1 c1 (ivs (dg (N / 256 ^ k))) ∧ OwnB wr w.heap.size v (leB k N) ∧ Below w.heap.size w wr)
  case atStart => exact ⟨0, A, c, by omega, rfl, by rw [HD0.out], by rw [HD0.out]; exact HS.out, World.ownsRow_nil w w.heap.size 5 1, Below.refl _ _⟩
  case round =>
    obtain ⟨k, A1, c1, hk, rfl, rfl, hS1, ho, hb⟩ := hrel
    have HS1 := hid hS1; have HK := hid hk; have HB := hid hb; have HO := hid ho
    have hkn : k ≤ n := by omega
    clear hS1 hk hb ho HS
    by_cases hlt : k < n
    · have hx : (k : Int) < (n : Int) := by omega
      obtain ⟨M, hM⟩ : ∃ M, M = N / 256 ^ k := ⟨_, rfl⟩
      have hML : (dg M).length ≤ 1048576 := by rw [hM]; exact Nat.le_trans (HD.out k) (by omega)
      rw [← hM] at HS1 ⊢
      have HM := hid hM; have HML := hid hML
      clear hM hML
      go_wp2_with fail
      refine (HN.out _).mono ?_
      rintro e w1 ⟨A2, c2, rfl, hS2, hb2⟩
      have HS2 := hid hS2; have HS12 := hid (HS1.out.on6 hb2); have HB2 := hid (HB.out.trans (hb2.mono HB.out.size))
      have HO2 : Hid (OwnB w1 w.heap.size u5 (leB k N)) := hid (World.ownsRow.kept HO.out (grownF hb2) (Classical.em _))
      clear hS2 hb2 HB HO
      go_wp2_with fail
      have hown_lt := World.ownsRow.lt HO2.out
      refine (Div_at M 256 A1 A2 c1 c2 w1 HS12.out HS2.out HML.out HL256.out (by omega)).mono ?_
      rintro e w2 ⟨c3, A4, c4, rfl, hS3, hS4, hb3⟩
      have HS3 := hid hS3; have HS4 := hid hS4; have HB3 := hid (HB2.out.trans (hb3.mono HB2.out.size))
      have HO3 : Hid (OwnB w2 w.heap.size u5 (leB k N)) := hid (World.ownsRow.kept HO2.out (grownF hb3) (Classical.em _))
      clear hS3 hS4 hb3 HB2 HO2 HS12 HS2 HS1
      obtain ⟨r, hr⟩ : ∃ r, r = M % 256 := ⟨_, rfl⟩
      have hr256 : r < 256 := by omega
      rw [← hr] at HS4 ⊢
      have HR := hid hr
      clear hr
      go_wp2_with fail
      refine (Low_any r A4 c4 w2.heap.size w2 HS4.out (by omega)).mono ?_
      rintro e w3 ⟨rfl, rfl⟩
      have hrm : (r : Int) % 256 = (r : Int) := by omega
      have hrw : IntKind.u8.wrap (r : Int) = (r : Int) := by rw [IntKind.wrap_u8]; omega
      have hsz := HB3.out.size
      have ho3 := HO3.out
      go_wp2_with (at_builtin; refine wpList_append_lie rfl (.tmp 20) (.tmp 24) 22 rfl w.heap.size 5 (.int .u8 0) 1 Tryz.underlying22 infoU8 rfl rfl (World.ownsRow.alloc ho3 _) rfl rfl (Lie.new1 _ _ _) ?d0 ?d1 ?d2 ?d3 ?_)
      case d0 => intro u hu; simp at hu; subst hu; rfl
      case d1 => rw [List.length_singleton]; unfold maxLen; simp; omega
      case d2 => rw [List.length_singleton]; simp; omega
      case d3 => simp; omega
      intro v2 w4 hown4 hg4 _
      have hO : OwnB w4 w.heap.size v2 (leB (k + 1) N) := by
        rw [leB_snoc]
        refine own_snoc hown4 (by simp) ?_
        rw [ofNat_val, ← HM.out]
        have := HR.out
        omega
      have hB4 : Below w.heap.size w w4 := (HB3.out.alloc hsz _).grown hg4 (by simp; omega) (fun q h => own_lt (World.ownsRow.alloc ho3 (.cells #[.int .u8 ((r : Nat) : Int)] 5)) q h)
      have hS5 : Sq w4 w4.heap.size (some ⟨w1.heap.size, 0, none⟩) c3 (ivs (dg (M / 256))) := by
        have h1 : Sq (w2.alloc (.cells #[.int .u8 ((r : Nat) : Int)] 5)) w2.heap.size (some ⟨w1.heap.size, 0, none⟩) c3 (ivs (dg (M / 256))) := HS3.out.alloc (Nat.le_refl _) _
        rcases h1 with ⟨h1, h2⟩ | ⟨b', o', hA, hb', hc1, hc2, hcell⟩
        · exact .inl ⟨h1, h2⟩
        · simp only [Option.some.injEq, Addr.mk.injEq] at hA
          obtain ⟨rfl, rfl, _⟩ := hA
          refine .inr ⟨w1.heap.size, 0, rfl, by have := hg4.size; simp at this; omega, hc1, hc2, fun j u hu => ?_⟩
          refine (World.cell?_of_block (a := ⟨w1.heap.size, 0 + j, none⟩) (hg4.block w1.heap.size (by simp; omega) (fun e => ?_))).trans (hcell j u hu)
          have := (hown_lt _ e.symm).2
          omega
      have HS5 := hid hS5; have HO4 := hid hO; have HB4 := hid hB4
      clear hS5 hO hB4 hown4 hg4 ho3 HS3 HS4 HB3 HO3 hown_lt
      have hdiv := div_pow256 N k
      rw [← HM.out] at hdiv
      rw [hdiv] at HS5 ⊢
      clear hdiv
      go_wp2
      have hk := HK.out
      go_roundg (n - k - 1)
      case measure => omega
      case rel => exact ⟨k + 1, _, c3, by omega, by go_num, rfl, HS5.out, HO4.out, HB4.out⟩
    · obtain rfl : k = n := by omega
      have hx : ¬ (k : Int) < (k : Int) := by omega
      go_wp2
      go_ret
      exact ⟨_, rfl, HO.out, HB.out⟩
end Go.Proofs.YtheamlhhfkaknaaGreatDoor
end
section
namespace Go.Proofs.YtheamlhhfkaknaaGreatDoor
open Go.RowKit
set_option linter.unusedVariables false
set_option linter.unusedSimpArgs false
/-- The blocks as a row of rows, each the call's own. -/
def Blks (w : World) (B : Nat) (key info : List UInt8) (v : Value) (i : Nat) : Prop :=
  ∃ vs : List Value, vs.length = i ∧ w.ownsRow B 22 1 v i vs ∧ ∀ j x, vs[j]? = some x → OwnB w B x (kBlk key info (j + 1))
theorem Blks.kept {w w' : World} {B : Nat} {key info : List UInt8} {v : Value} {i : Nat} (h : Blks w B key info v i) (hb : Below w.heap.size w w') : Blks w' B key info v i := by
  obtain ⟨vs, hl, ho, he⟩ := h
  exact ⟨vs, hl, World.ownsRow.kept ho (grown_of_below hb) (Classical.em _), fun j x hx => World.ownsRow.kept (he j x hx) (grown_of_below hb) (Classical.em _)⟩
end Go.Proofs.YtheamlhhfkaknaaGreatDoor
end
section
namespace Go.Proofs.YtheamlhhfkaknaaGreatDoor
open Go.RowKit
set_option linter.unusedVariables false
set_option linter.unusedSimpArgs false
theorem own_lit (w : World) (cs : Array Value) (n : Nat) (xs : List UInt8) {B : Nat} (hB : B ≤ w.heap.size) (hn : cs.size = n) (hx : xs.length = n) (h63 : n ≤ 9223372036854775807) (h : cs.toList = bvs xs) :
    OwnB (w.alloc (.cells cs 5)) B (.slice (some ⟨w.heap.size, 0, none⟩) n n) xs := by
  have h1 := World.ownsRow_lit (base := B) (e := 5) (size := 1) w cs n hB (by simpa [maxLen] using h63) (by rw [hn, Nat.mul_one])
  rw [h] at h1
  unfold OwnB
  rw [hx]
  exact h1
theorem u8_cell (m : Nat) (z : Int) (h : z = (m : Int) % 256) : Value.int .u8 z = .int .u8 ((UInt8.ofNat m).toNat : Int) := by
  rw [ofNat_val, h]
theorem len_cells1 (n : Nat) (h : n < 64) : [Value.int .u8 (n : Int)] = bvs (lenBytes n) := by
  unfold lenBytes
  rw [if_pos h]
  simp only [beBytes, bvs, List.map_cons, List.map_nil]
  rw [u8_cell (n / 256 ^ 0) (n : Int) (by simp; omega)]
theorem len_cells2 (n : Nat) (h1 : ¬ n < 64) (h : n < 16384) : [Value.int .u8 (64 + (n : Int) / 256), .int .u8 ((n : Int) % 256)] = bvs (lenBytes n) := by
  unfold lenBytes
  rw [if_neg h1, if_pos h]
  simp only [beBytes, bvs, List.map_cons, List.map_nil]
  rw [u8_cell ((16384 + n) / 256 ^ 1) (64 + (n : Int) / 256) (by simp; omega), u8_cell ((16384 + n) / 256 ^ 0) ((n : Int) % 256) (by simp; omega)]
theorem len_cells4 (n : Nat) (h1 : ¬ n < 64) (h2 : ¬ n < 16384) (h : n < 1073741824) :
    [Value.int .u8 (128 + (n : Int) / 16777216), .int .u8 ((n : Int) / 65536 % 256), .int .u8 ((n : Int) / 256 % 256), .int .u8 ((n : Int) % 256)] = bvs (lenBytes n) := by
  unfold lenBytes
  rw [if_neg h1, if_neg h2]
  simp only [beBytes, bvs, List.map_cons, List.map_nil]
  rw [u8_cell ((2147483648 + n) / 256 ^ 3) (128 + (n : Int) / 16777216) (by simp; omega), u8_cell ((2147483648 + n) / 256 ^ 2) ((n : Int) / 65536 % 256) (by simp; omega),
    u8_cell ((2147483648 + n) / 256 ^ 1) ((n : Int) / 256 % 256) (by simp; omega), u8_cell ((2147483648 + n) / 256 ^ 0) ((n : Int) % 256) (by simp; omega)]
set_option maxRecDepth 100000 in
set_option maxHeartbeats 400000 in
theorem RefLen_any (n : Nat) (w : World) (hn : n < 1073741824) :
    Calls Tryz.prog 77 #[.int .i64 (n : Int)] w fun e w' => ∃ v, e = .returned v ∧ OwnB w' w.heap.size v (lenBytes n) ∧ w.grownBy w' none := by
  by_cases h1 : n < 64
  · have HC := hid (len_cells1 n h1)
    have HL : Hid ((lenBytes n).length = 1) := hid (by rw [lenBytes_length, lenSize, if_pos h1])
    go_enter Tryz.func77, Tryz.ntmps77
    go_wp2
    go_ret
    exact ⟨_, rfl, own_lit w _ 1 _ (Nat.le_refl _) rfl HL.out (by omega) HC.out, World.grownBy_alloc w _ none⟩
  · by_cases h2 : n < 16384
    · have HC := hid (len_cells2 n h1 h2)
      have HL : Hid ((lenBytes n).length = 2) := hid (by rw [lenBytes_length, lenSize, if_neg h1, if_pos h2])
      go_enter Tryz.func77, Tryz.ntmps77
      go_wp2
      go_ret
      exact ⟨_, rfl, own_lit w _ 2 _ (Nat.le_refl _) rfl HL.out (by omega) HC.out, World.grownBy_alloc w _ none⟩
    · have HC := hid (len_cells4 n h1 h2 hn)
      have HL : Hid ((lenBytes n).length = 4) := hid (by rw [lenBytes_length, lenSize, if_neg h1, if_neg h2])
      go_enter Tryz.func77, Tryz.ntmps77
      go_wp2
      go_ret
      exact ⟨_, rfl, own_lit w _ 4 _ (Nat.le_refl _) rfl HL.out (by omega) HC.out, World.grownBy_alloc w _ none⟩
set_option maxHeartbeats 400000 in
theorem RefVec_any (A : Option Addr) (ys : List UInt8) (c : Nat) (w : World) (hn : ys.length < 1073741824) (hA : Lie w w.heap.size A (bvs ys)) :
    Calls Tryz.prog 50 #[.slice A ys.length c] w fun e w' => ∃ v, e = .returned v ∧ OwnB w' w.heap.size v (vecBytes ys) ∧ w.grownBy w' none := by
  go_enter Tryz.func50, Tryz.ntmps50
  go_wp2_with fail
  refine (RefLen_any ys.length _ hn).mono ?_
  rintro e w1 ⟨v1, rfl, ho1, hg1⟩
  have hA1 := hA.grown hg1 (Nat.le_refl _) (fun _ h => by cases h)
  have HZ := hid (lenBytes_length ys.length)
  have hz2 := lenSize_le ys.length
  go_wp2_with (at_builtin; refine wpList_append_lie rfl _ _ 22 rfl w.heap.size 5 (.int .u8 0) 1 Tryz.underlying22 infoU8 rfl rfl ho1 (bvs_length ys) rfl hA1 (bvs_one ys) ?d1 ?d2 ?d3 ?_)
  case d1 => rw [HZ.out]; unfold maxLen; omega
  case d2 => rw [HZ.out]; omega
  case d3 => exact hg1.size
  intro v2 w2 hown2 hg2 hat2
  go_wp2
  go_ret
  exact ⟨v2, rfl, by simpa [OwnB, vecBytes, bvs_append] using hown2, grown_fresh hg1 hg2 (own_lt ho1)⟩
end Go.Proofs.YtheamlhhfkaknaaGreatDoor
end
section
namespace Go.Proofs.YtheamlhhfkaknaaGreatDoor
open Go.RowKit
set_option linter.unusedVariables false
set_option linter.unusedSimpArgs false
theorem RefVec_n (A : Option Addr) (ys : List UInt8) (m c : Nat) (w : World) (hy : ys.length = m) (hn : m < 1073741824) (hA : Lie w w.heap.size A (bvs ys)) :
    Calls Tryz.prog 50 #[.slice A m c] w fun e w' => ∃ v, e = .returned v ∧ OwnB w' w.heap.size v (vecBytes ys) ∧ w.grownBy w' none := by
  subst hy
  exact RefVec_any A ys c w hn hA
theorem below_of_none {w w' : World} (h : w.grownBy w' none) : Below w.heap.size w w' := below_of_grown h (Nat.le_refl _) (fun _ h => by cases h)
end Go.Proofs.YtheamlhhfkaknaaGreatDoor
end
