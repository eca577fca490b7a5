/-
  The document's numbers modulo the order.
-/
import Derived.Test.YtacikkhhacladaaRef06o
import Derived.Test.YtacikkhhacladaaScP
namespace Go.Proofs.Ytacikkhhacladaa
open Go.RowKit
set_option linter.unusedVariables false
set_option linter.unusedSimpArgs false
set_option exponentiation.threshold 2000

/-- The digits, as bytes. -/
def dgS : List UInt8 := [50, 55, 55, 52, 50, 51, 49, 55, 55, 55, 55, 51, 55, 50, 51, 53, 51, 53, 51, 53, 56, 53, 49, 57, 51, 55, 55, 57, 48, 56, 56, 51, 54, 52, 56, 52, 57, 51]
def prefS (k : Nat) : Nat := (dgS.take k).foldl (fun n d => n * 10 + (d.toNat - 48)) 0
theorem prefS_zero : prefS 0 = 0 := rfl
theorem prefS_end : prefS 38 = 27742317777372353535851937790883648493 := by decide +kernel
theorem prefS_next (k : Nat) (h : k < 38) : prefS (k + 1) = prefS k * 10 + ((dgS.getD k 0).toNat - 48) ∧ 48 ≤ (dgS.getD k 0).toNat ∧ (dgS.getD k 0).toNat ≤ 57 := by
  have : ∀ k : Fin 38, prefS (k.val + 1) = prefS k.val * 10 + ((dgS.getD k.val 0).toNat - 48) ∧ 48 ≤ (dgS.getD k.val 0).toNat ∧ (dgS.getD k.val 0).toNat ≤ 57 := by decide +kernel
  exact this ⟨k, h⟩
theorem prefS_lt (k : Nat) (h : k ≤ 38) : prefS k < 32768 ^ 50 := by
  have : ∀ k : Fin 39, prefS k.val < 32768 ^ 50 := by decide +kernel
  exact this ⟨k, by omega⟩
def dgB : ByteArray := ⟨⟨dgS⟩⟩
theorem dgB_size : dgB.size = 38 := rfl
theorem index_dgB (W : World) (k : Nat) (h : k < 38) : (Instr.index 9 (.string dgB) (.int .i64 (k : Int))).run Try.prog W = .ok (.int .u8 ((dgS.getD k 0).toNat : Int)) W := by
  have hu : Try.prog.underlying 9 = some .string := by kernel_rfl
  have hi : (0 : Int) ≤ (k : Int) ∧ (k : Int) < (dgB.size : Int) := by rw [dgB_size]; omega
  rw [run_index_string W 9 dgB .i64 (k : Int) hu, dif_pos hi]
  have e : ∀ (j : Nat) (hj : j < dgB.size), dgB[j] = dgS.getD j 0 := fun j hj => by
    rw [dgB_size] at hj
    have : ∀ j : Fin 38, dgB[j.val]'(by rw [dgB_size]; exact j.isLt) = dgS.getD j.val 0 := by decide +kernel
    exact this ⟨j, hj⟩
  have e2 := e (k : Int).toNat (by rw [dgB_size]; omega)
  rw [e2, Int.toNat_natCast]

set_option maxHeartbeats 1000000 in
theorem Order_any (w : World) : Calls Try.prog 20 #[] w (BigR w ordL) := by
  have HN : Hid (∀ W, Calls Try.prog 31 #[.int .u64 10] W (BigR W 10)) := hid fun W => Num_any 10 W (by omega)
  have HP : Hid (∀ W, Calls Try.prog 10 #[.int .i64 252] W (BigR W (2 ^ 252))) := hid fun W => Pow_any 252 W (by omega)
  have bl : ∀ N, N < 32768 ^ 50 → (dg N).length ≤ 1073741824 := fun N h => Nat.le_trans (dgl6 N h) (by omega)
  have h10 := bl 10 (by decide +kernel)
  have H10 := hid h10
  have h252 := bl (2 ^ 252) (by decide +kernel)
  have HAD : Hid (∀ W A c A' c', Sq W W.heap.size A c (ivs (dg (2 ^ 252))) → Sq W W.heap.size A' c' (ivs (dg (prefS 38))) → Calls Try.prog 15 #[.slice A (dg (2 ^ 252)).length c, .slice A' (dg (prefS 38)).length c'] W (BigR W ordL)) := hid fun W A c A' c' h h' => by
    have h := Add_any (2 ^ 252) (prefS 38) A A' c c' W h h' h252 (bl _ (prefS_lt 38 (Nat.le_refl _)))
    rw [ordL_def, ← prefS_end]
    exact h
  obtain ⟨T, hT⟩ : ∃ T, T = 2 ^ 252 := ⟨_, rfl⟩
  rw [← hT] at HP HAD
  have HBL := hid bl
  clear hT h252 h10 bl
  go_enter Try.func20, Try.ntmps20
  go_wp2
  rw [show Value.string ⟨(50 :: 55 :: 55 :: 52 :: 50 :: 51 :: 49 :: 55 :: 55 :: 55 :: 55 :: 51 :: 55 :: 50 :: 51 :: 53 :: 51 :: 53 :: 51 :: 53 :: 56 :: 53 :: 49 :: 57 :: 51 :: 55 :: 55 :: 57 :: 48 :: 56 :: 56 :: 51 :: 54 :: 52 :: 56 :: 52 :: 57 :: 51 :: []).toArray⟩ = Value.string dgB from rfl]
  go_loopg [1, 3] 38 (fun g v i wr => ∃ (k : Nat) (A1 : Option Addr) (c1 : Nat), k + g = 38 ∧ i = .int .i64 (k : Int) ∧ v = .slice A1 (dg (prefS k)).length c1 ∧ Sq wr wr.heap.size A1 c1 (ivs (dg (prefS k))) ∧ Below w.heap.size w wr)
  case atStart => exact ⟨0, none, 0, rfl, rfl, by rw [prefS_zero, dg_zero]; rfl, by rw [prefS_zero, dg_zero]; exact Sq.nil, Below.refl _ _⟩
  case round =>
    obtain ⟨k, A1, c1, hk, rfl, rfl, hS1, hb⟩ := hrel
    have hsz := dgB_size
    have HS1 := hid hS1; have HK := hid hk; have HB := hid hb
    have hk38 : k ≤ 38 := by omega
    clear hS1 hk hb
    by_cases hlt : k < 38
    · have hx : (k : Int) < 38 := by omega
      have hk0 : (0 : Int) ≤ (k : Int) := by omega
      obtain ⟨hnx, hd1, hd2⟩ := prefS_next k hlt
      have hix := fun W => index_dgB W k hlt
      have hpl := prefS_lt k hk38
      have hpl1 := prefS_lt (k + 1) hlt
      obtain ⟨d, hd⟩ : ∃ d, d = (dgS.getD k 0).toNat := ⟨_, rfl⟩
      rw [← hd] at hnx hd1 hd2
      simp only [← hd] at hix
      obtain ⟨M, hM⟩ : ∃ M, M = prefS k := ⟨_, rfl⟩
      obtain ⟨M2, hM2⟩ : ∃ M2, M2 = prefS (k + 1) := ⟨_, rfl⟩
      rw [← hM] at HS1 hnx hpl ⊢
      rw [← hM2] at hnx hpl1
      obtain ⟨q, hq⟩ : ∃ q, q = d - 48 := ⟨_, rfl⟩
      rw [← hq] at hnx
      have hdw : IntKind.u64.wrap (d : Int) = (d : Int) := by rw [IntKind.wrap_u64]; omega
      have hqw : IntKind.u64.wrap ((d : Int) - 48) = (q : Int) := by rw [IntKind.wrap_u64]; omega
      have HQ : Hid (∀ W, Calls Try.prog 31 #[.int .u64 (q : Int)] W (BigR W q)) := hid fun W => Num_any q W (by omega)
      have MU : Hid (∀ W A c, Below wr.heap.size wr W → Sq W W.heap.size A c (ivs (dg 10)) → Calls Try.prog 17 #[.slice A1 (dg M).length c1, .slice A (dg 10).length c] W (BigR W (M * 10))) := hid fun W A c hB hS =>
        Mul_any M 10 A1 A c1 c W (HS1.out.on6 hB) hS (HBL.out M hpl) H10.out
      have AD : Hid (∀ W A c A' c', Sq W W.heap.size A c (ivs (dg (M * 10))) → Sq W W.heap.size A' c' (ivs (dg q)) → Calls Try.prog 15 #[.slice A (dg (M * 10)).length c, .slice A' (dg q).length c'] W (BigR W M2)) := hid fun W A c A' c' hS hS' => by
        have h := Add_any (M * 10) q A A' c c' W hS hS' (HBL.out _ (by omega)) (HBL.out _ (Nat.lt_of_le_of_lt (show q ≤ 9 by omega) (by decide +kernel)))
        rw [← hnx] at h
        exact h
      have HM2 := hid hM2
      clear hM hM2 hnx hd hd1 hd2 hpl hpl1 hq
      go_wp2_with fail
      go_region_held3 (fun w' => Below wr.heap.size wr w')
        (first
          | exact hB9 | exact hB8 | exact hB7 | exact hB6
          | exact (Below.refl _ _).drew)
        (first
          | (go_at_call 31; (with_reducible refine Calls.mono (HN.out _) ?_); rintro e w6 ⟨A6, c6, rfl, hS6, hb6⟩; have hB6 : Below wr.heap.size wr w6 := (Below.refl _ wr).drew.trans (hb6.mono (Nat.le_refl _)))
          | (go_at_call 17; refine (MU.out _ _ _ hB6 hS6).mono ?_; rintro e w7 ⟨A7, c7, rfl, hS7, hb7⟩; have hB7 := hB6.trans (hb7.mono hB6.size))
          | (go_at_call 31; (with_reducible refine Calls.mono (HQ.out _) ?_); rintro e w8 ⟨A8, c8, rfl, hS8, hb8⟩; have hB8 := hB7.trans (hb8.mono hB7.size); have hS78 := hS7.on6 hb8)
          | (go_at_call 15; refine (AD.out _ _ _ _ _ hS78 hS8).mono ?_; rintro e w9 ⟨A9, c9, rfl, hS9, hb9⟩; have hB9 := hB8.trans (hb9.mono hB8.size)))
      all_goals
        have HS9 := hid hS9
        have HB9 := hid (HB.out.trans (hB9.mono HB.out.size))
        clear hS6 hb6 hB6 hS7 hb7 hB7 hS8 hb8 hB8 hS78 hS9 hb9 hB9 HQ MU AD hix
        go_wp2
        have hk := HK.out
        go_roundg (38 - k - 1)
        case measure => omega
        case rel => exact ⟨k + 1, A9, c9, by omega, by go_num, by rw [← HM2.out], by rw [← HM2.out]; exact HS9.out, HB9.out⟩
    · obtain rfl : k = 38 := by omega
      have hx : ¬ ((38 : Nat) : Int) < 38 := by omega
      go_wp2_with fail
      refine (HP.out _).mono ?_
      rintro e w6 ⟨A6, c6, rfl, hS6, hb6⟩
      have HS6 := hid hS6; have HS16 := hid (HS1.out.on6 hb6); have HB6 := hid (HB.out.trans (hb6.mono HB.out.size))
      clear hS6 hb6 HS1 HB
      go_wp2_with fail
      refine (HAD.out _ _ _ _ _ HS6.out HS16.out).mono ?_
      rintro e w7 ⟨A7, c7, rfl, hS7, hb7⟩
      have HS7 := hid hS7; have HB7 := hid (HB6.out.trans (hb7.mono HB6.out.size))
      clear hS7 hb7
      go_wp2
      go_ret
      exact ⟨A7, c7, rfl, HS7.out, HB7.out⟩

theorem Mod8_any (a : Nat) (A : Option Addr) (c : Nat) (w : World) (hS : Sq w w.heap.size A c (ivs (dg a))) (ha : a < 32768 ^ 600) :
    Calls Try.prog 14 #[.slice A (dg a).length c] w (BigR w (a % ordL)) := by
  have HS := hid hS
  have HO := hid Order_any
  have hal := (dg_length_le a 600).2 ha
  have hol := (dg_length_le ordL 17).2 ordL_dig
  have HD : Hid (∀ W A' c', Sq W W.heap.size A c (ivs (dg a)) → Sq W W.heap.size A' c' (ivs (dg ordL)) → Calls Try.prog 9 #[.slice A (dg a).length c, .slice A' (dg ordL).length c'] W fun e w' => ∃ A1 c1 A2 c2, e = .returned (.tuple #[.slice A1 (dg (a / ordL)).length c1, .slice A2 (dg (a % ordL)).length c2]) ∧ Sq w' w'.heap.size A1 c1 (ivs (dg (a / ordL))) ∧ Sq w' w'.heap.size A2 c2 (ivs (dg (a % ordL))) ∧ Below W.heap.size W w') := hid fun W A' c' h h' =>
    Div_any a ordL A A' c c' W h h' (by omega) (by omega) (by decide +kernel)
  clear hS hal hol ha
  go_enter Try.func14, Try.ntmps14
  go_wp2_with fail
  refine (HO.out _).mono ?_
  rintro e w1 ⟨A1, c1, rfl, hS1, hb1⟩
  have HS1 := hid hS1; have HSa := hid (HS.out.on6 hb1); have HB1 := hid hb1
  clear hS1 hb1 HS
  go_wp2_with fail
  refine (HD.out _ _ _ HSa.out HS1.out).mono ?_
  rintro e w2 ⟨A2, c2, A3, c3, rfl, -, hS3, hb2⟩
  have HS3 := hid hS3; have HB2 := hid (HB1.out.trans (hb2.mono HB1.out.size))
  clear hS3 hb2
  go_wp2
  go_ret
  exact ⟨A3, c3, rfl, HS3.out, HB2.out⟩

theorem leN_600 (xs : List UInt8) (h : xs.length ≤ 64) : leN xs < 32768 ^ 600 := by
  have h := leN_dig7 xs 0 (by omega)
  rw [List.drop_zero] at h
  exact h
theorem Of8_any (A : Option Addr) (xs : List UInt8) (c : Nat) (w : World) (hS : Sq w w.heap.size A c (bvs xs)) (hl : xs.length ≤ 1000) :
    Calls Try.prog 8 #[.slice A xs.length c] w (BigR w (ofL xs)) := by
  have HS := hid hS
  obtain ⟨V, hV⟩ : ∃ V, V = ofL xs := ⟨_, rfl⟩
  rw [← hV]
  by_cases h : 64 < xs.length
  · have hx : (64 : Int) < (xs.length : Int) := by omega
    have hcap := hS.cap
    rw [bvs_length] at hcap
    have hc1 : (64 : Int) ≤ (c : Int) := by omega
    have htl : (xs.take 64).length = 64 := by rw [List.length_take]; omega
    have ht : Sq w w.heap.size A c (bvs (xs.take 64)) := by
      have h := hS.take 64
      unfold bvs at h ⊢
      rw [List.map_take]
      exact h
    have OF := Of6_any A (xs.take 64) c w ht (by omega)
    rw [htl] at OF
    have OF := hid OF
    have MD := hid (fun A c W h => Mod8_any (leN (xs.take 64)) A c W h (leN_600 _ (by omega)))
    rw [show leN (xs.take 64) % ordL = V from hV.symm] at MD
    obtain ⟨b, o, rfl, -⟩ := hS.form (by rw [bvs_length]; omega)
    clear hV hS hcap htl ht h
    go_enter Try.func8, Try.ntmps8
    go_wp2_with fail
    refine OF.out.mono ?_
    rintro e w2 ⟨A2, c2, rfl, hS2, hb2⟩
    have HS2 := hid hS2; have HB2 := hid hb2
    clear hS2 hb2
    go_wp2_with fail
    refine (MD.out _ _ _ HS2.out).mono ?_
    rintro e w3 ⟨A3, c3, rfl, hS3, hb3⟩
    have HS3 := hid hS3; have HB3 := hid (HB2.out.trans (hb3.mono HB2.out.size))
    clear hS3 hb3
    go_wp2
    go_ret
    exact ⟨A3, c3, rfl, HS3.out, HB3.out⟩
  · have hx : ¬ (64 : Int) < (xs.length : Int) := by omega
    have OF := hid (Of6_any A xs c w hS hl)
    have MD := hid (fun A c W h => Mod8_any (leN xs) A c W h (leN_600 _ (by omega)))
    rw [show leN xs % ordL = V by rw [hV, ofL, List.take_of_length_le (by omega)]] at MD
    clear hV hS h
    go_enter Try.func8, Try.ntmps8
    go_wp2_with fail
    refine OF.out.mono ?_
    rintro e w2 ⟨A2, c2, rfl, hS2, hb2⟩
    have HS2 := hid hS2; have HB2 := hid hb2
    clear hS2 hb2
    go_wp2_with fail
    refine (MD.out _ _ _ HS2.out).mono ?_
    rintro e w3 ⟨A3, c3, rfl, hS3, hb3⟩
    have HS3 := hid hS3; have HB3 := hid (HB2.out.trans (hb3.mono HB2.out.size))
    clear hS3 hb3
    go_wp2
    go_ret
    exact ⟨A3, c3, rfl, HS3.out, HB3.out⟩
end Go.Proofs.Ytacikkhhacladaa
