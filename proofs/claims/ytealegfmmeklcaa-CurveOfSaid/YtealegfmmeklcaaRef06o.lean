/-
  The document's numbers: of bytes.
-/
import Derived.Test.YtealegfmmeklcaaBigB
import Derived.Test.YtealegfmmeklcaaLeN
namespace Go.Proofs.Ytealegfmmeklcaa
open Go.RowKit
set_option linter.unusedVariables false
set_option linter.unusedSimpArgs false
set_option exponentiation.threshold 2000

theorem leN_drop (xs : List UInt8) (k : Nat) (h : k < xs.length) : leN (xs.drop k) = leN (xs.drop (k + 1)) * 256 + xs[k].toNat := by
  rw [List.drop_eq_getElem_cons h, leN]; omega
theorem leN_dig7 (xs : List UInt8) (k : Nat) (h : xs.length ≤ 1000) : leN (xs.drop k) < 32768 ^ 600 := by
  have h1 := leN_lt (xs.drop k)
  have h2 : 256 ^ (xs.drop k).length ≤ 256 ^ 1000 := Nat.pow_le_pow_right (by omega) (by rw [List.length_drop]; omega)
  have h3 : (256 : Nat) ^ 1000 < 32768 ^ 600 := by
    rw [show (1000 : Nat) = 200 * 5 from rfl, show (600 : Nat) = 200 * 3 from rfl, Nat.pow_mul', Nat.pow_mul']
    exact Nat.pow_lt_pow_left (by decide +kernel) (by omega)
  exact Nat.lt_of_lt_of_le (Nat.lt_of_lt_of_le h1 h2) (Nat.le_of_lt h3)
theorem dgl7 (N : Nat) (h : N < 32768 ^ 600) : (dg N).length ≤ 1073741824 := Nat.le_trans ((dg_length_le N 600).2 h) (by omega)

set_option maxHeartbeats 1000000 in
theorem Of6_any (A : Option Addr) (xs : List UInt8) (c : Nat) (w : World) (hS : Sq w w.heap.size A c (bvs xs)) (hl : xs.length ≤ 1000) :
    Calls Try.prog 11 #[.slice A xs.length c] w (BigR w (leN xs)) := by
  have HS := hid hS
  have HN : Hid (∀ W, Calls Try.prog 15 #[.int .u64 256] W (BigR W 256)) := hid fun W => Num_any 256 W (by omega)
  have HL256 := hid (dgl7 256 (by decide +kernel))
  have HDL := hid (fun k => leN_dig7 xs k hl)
  have hd0 : leN (xs.drop 0) = leN xs := by rw [List.drop_zero]
  obtain ⟨L, hL⟩ : ∃ L, L = leN xs := ⟨_, rfl⟩
  rw [← hL] at hd0 ⊢
  have HD0 := hid hd0
  have hw1 : IntKind.i64.wrap ((xs.length : Int) - 1) = (xs.length : Int) - 1 := IntWalk.i64_in _ (by omega)
  clear hS hd0 hL
  go_enter Try.func11, Try.ntmps11
  go_wp2
  clear hw1
  go_loopg [3, 4] xs.length (fun g v i wr => ∃ (k : Nat) (A1 : Option Addr) (c1 : Nat), v = .slice A1 (dg (leN (xs.drop k))).length c1 ∧ Sq wr wr.heap.size A1 c1 (ivs (dg (leN (xs.drop k)))) ∧ g = k ∧ k ≤ xs.length ∧ i = .int .i64 ((k : Int) - 1) ∧ Below w.heap.size w wr)
  case atStart => exact ⟨xs.length, none, 0, by rw [List.drop_length, leN, dg_zero]; rfl, by rw [List.drop_length, leN, dg_zero]; exact Sq.nil, rfl, Nat.le_refl _, rfl, Below.refl _ _⟩
  case round =>
    obtain ⟨k, A1, c1, rfl, hS1, hg, hk, rfl, hb⟩ := hrel
    have HS1 := hid hS1; have HG := hid hg; have HB := hid hb
    clear hS1 hg hb
    rcases k with _ | k
    · have hx : ¬ (0 : Int) ≤ ((0 : Nat) : Int) - 1 := by omega
      rw [HD0.out] at HS1 ⊢
      go_wp2
      go_ret
      exact ⟨A1, c1, rfl, HS1.out, HB.out⟩
    · have hx : (0 : Int) ≤ ((k + 1 : Nat) : Int) - 1 := by omega
      have hkl : k < xs.length := by omega
      have hk1 : ((k + 1 : Nat) : Int) - 1 = (k : Int) := by omega
      rw [hk1] at hx ⊢
      have hk0 : (k : Int) < (xs.length : Int) := by omega
      obtain ⟨b, o, rfl, hbl, hcell⟩ := ((HS.out.below HB.out).lie).byte hkl
      have hnx := leN_drop xs k hkl
      obtain ⟨y, hy⟩ : ∃ y, y = xs[k] := ⟨_, rfl⟩
      rw [← hy] at hcell hnx
      obtain ⟨M, hM⟩ : ∃ M, M = leN (xs.drop (k + 1)) := ⟨_, rfl⟩
      obtain ⟨M2, hM2⟩ : ∃ M2, M2 = leN (xs.drop k) := ⟨_, rfl⟩
      have hMl : M < 32768 ^ 600 := by rw [hM]; exact HDL.out _
      have hM2l : M2 < 32768 ^ 600 := by rw [hM2]; exact HDL.out _
      rw [← hM] at HS1 hnx ⊢
      rw [← hM2] at hnx
      have hyl := y.toNat_lt
      have hyw : IntKind.u64.wrap (y.toNat : Int) = (y.toNat : Int) := by rw [IntKind.wrap_u64]; omega
      have HY : Hid (∀ W, Calls Try.prog 15 #[.int .u64 (y.toNat : Int)] W (BigR W y.toNat)) := hid fun W => Num_any y.toNat W (by omega)
      have MU : Hid (∀ W A c, Below wr.heap.size wr W → Sq W W.heap.size A c (ivs (dg 256)) → Calls Try.prog 43 #[.slice A1 (dg M).length c1, .slice A (dg 256).length c] W (BigR W (M * 256))) := hid fun W A c hB hS =>
        Mul_any M 256 A1 A c1 c W (HS1.out.on6 hB) hS (dgl7 M hMl) HL256.out
      have AD : Hid (∀ W A c A' c', Sq W W.heap.size A c (ivs (dg (M * 256))) → Sq W W.heap.size A' c' (ivs (dg y.toNat)) → Calls Try.prog 42 #[.slice A (dg (M * 256)).length c, .slice A' (dg y.toNat).length c'] W (BigR W M2)) := hid fun W A c A' c' hS hS' => by
        have h := Add_any (M * 256) y.toNat A A' c c' W hS hS' (dgl7 _ (by omega)) (dgl7 _ (by omega))
        rw [← hnx] at h
        exact h
      have CK : Hid (∀ W, Below wr.heap.size wr W → W.cell? ⟨b, o + k, none⟩ = some (.int .u8 (y.toNat : Int)) ∧ Below wr.heap.size wr W) := hid fun W h => ⟨(h.cell (p := ⟨b, o + k, none⟩) (by have := HB.out.size; simp only; omega)).trans hcell, h⟩
      have HM2 := hid hM2
      clear hM hM2 hMl hM2l hnx hy hyl hcell
      go_wp2_with fail
      go_region_held3 (fun w' => w'.cell? ⟨b, o + k, none⟩ = some (.int .u8 (y.toNat : Int)) ∧ Below wr.heap.size wr w')
        (first
          | exact CK.out _ hB9 | exact CK.out _ hB8 | exact CK.out _ hB7 | exact CK.out _ hB6
          | exact CK.out _ (Below.refl _ _).drew)
        (first
          | (go_at_call 15; (with_reducible refine Calls.mono (HN.out _) ?_); rintro e w6 ⟨A6, c6, rfl, hS6, hb6⟩; have hB6 : Below wr.heap.size wr w6 := (Below.refl _ wr).drew.trans (hb6.mono (Nat.le_refl _)))
          | (go_at_call 43; refine (MU.out _ _ _ hB6 hS6).mono ?_; rintro e w7 ⟨A7, c7, rfl, hS7, hb7⟩; have hB7 := hB6.trans (hb7.mono hB6.size))
          | (go_at_call 15; (with_reducible refine Calls.mono (HY.out _) ?_); rintro e w8 ⟨A8, c8, rfl, hS8, hb8⟩; have hB8 := hB7.trans (hb8.mono hB7.size); have hS78 := hS7.on6 hb8)
          | (go_at_call 42; refine (AD.out _ _ _ _ _ hS78 hS8).mono ?_; rintro e w9 ⟨A9, c9, rfl, hS9, hb9⟩; have hB9 := hB8.trans (hb9.mono hB8.size)))
      have HS9 := hid hS9
      have HB9 := hid (HB.out.trans (hB9.mono HB.out.size))
      clear hS6 hb6 hB6 hS7 hb7 hB7 hS8 hb8 hB8 hS78 hS9 hb9 hB9 HY MU AD CK
      go_wp2
      have hg := HG.out
      go_roundg k
      case measure => omega
      case rel => exact ⟨k, A9, c9, by rw [← HM2.out], by rw [← HM2.out]; exact HS9.out, rfl, by omega, by go_num, HB9.out⟩
end Go.Proofs.Ytealegfmmeklcaa
