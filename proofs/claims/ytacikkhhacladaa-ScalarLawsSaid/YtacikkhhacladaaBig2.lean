/-
  The document's numbers of any size: compared, added, powers of 2.
-/
import Derived.Test.YtacikkhhacladaaBig1
namespace Go.Proofs.Ytacikkhhacladaa
open Go.RowKit
set_option linter.unusedVariables false
set_option linter.unusedSimpArgs false

theorem dg_getD' (n i : Nat) : (dg n).getD i 0 = n / 32768 ^ i % 32768 := dg_getD n i

set_option maxRecDepth 100000 in
set_option maxHeartbeats 800000 in
theorem Less_any (a b : Nat) (A A' : Option Addr) (c c' B B' : Nat) (w : World) (hS : Sq w B A c (ivs (dg a))) (hS' : Sq w B' A' c' (ivs (dg b))) (hl : (dg a).length ≤ 1099511627776) :
    Calls Try.prog 26 #[.slice A (dg a).length c, .slice A' (dg b).length c'] w fun e w' => e = .returned (.bool (decide (a < b))) ∧ ∃ n, w' = w.drewN n := by
  by_cases hlen : (dg a).length = (dg b).length
  · have hne : (((dg a).length : Int) != ((dg b).length : Int)) = false := by simp [hlen]
    obtain ⟨la, hla⟩ : ∃ l, l = (dg a).length := ⟨_, rfl⟩
    have h0 : a / 32768 ^ la = b / 32768 ^ la := by rw [hla, dg_short a _ (Nat.le_refl _), dg_short b _ (by omega)]
    have hlb : (dg b).length = la := by omega
    have hla2 : (la : Int) ≤ 1099511627776 := by omega
    have HS := hid hS; have HS' := hid hS'; have H0 := hid h0; have HLA := hid hla; have HLB := hid hlb
    rw [← hlen, ← hla] at hne
    rw [hlb, ← hla]
    clear hS hS' h0 hlen hla hlb hl
    go_enter Try.func26, Try.ntmps26
    go_wp2
    go_loopg [5] la (fun g i wr => ∃ k : Nat, k = g ∧ k ≤ la ∧ i = .int .i64 ((k : Int) - 1) ∧ a / 32768 ^ k = b / 32768 ^ k ∧ ∃ n, wr = w.drewN n)
    case atStart => exact ⟨la, rfl, Nat.le_refl _, rfl, H0.out, 0, rfl⟩
    case round =>
      obtain ⟨k, hk, hkl, rfl, hd, hw⟩ := hrel
      have hcell : ∀ p, wr.cell? p = w.cell? p := by obtain ⟨n, rfl⟩ := hw; exact fun p => rfl
      have HC := hid hcell; have HD := hid hd; have HW := hid hw; have HK := hid hk
      clear hcell hd hw hk
      rcases k with _ | k
      · have hab : a = b := by have := HD.out; simpa using this
        have HF : Hid (decide (a < b) = false) := hid (by rw [hab]; simp)
        clear hab
        go_wp2
        go_ret
        exact ⟨by rw [HF.out]; rfl, HW.out⟩
      · have e1 : (((k + 1 : Nat) : Int) - 1) = (k : Int) := by omega
        rw [e1]
        clear e1
        have hk0 : (0 : Int) ≤ (k : Int) := by omega
        have hkl2 : (k : Int) < (la : Int) := by omega
        have hkl3 : (k : Int) ≤ 1099511627776 := by omega
        obtain ⟨b1, o1, rfl, _, hc1⟩ := HS.out.dig (k := k) (by rw [← HLA.out]; omega)
        obtain ⟨b2, o2, rfl, _, hc2⟩ := HS'.out.dig (k := k) (by rw [HLB.out]; omega)
        rw [← HC.out] at hc1 hc2
        rw [dg_getD] at hc1 hc2
        have hle := less_digit a b k HD.out
        have hsm := less_same a b k HD.out
        obtain ⟨x, hx⟩ : ∃ x, x = a / 32768 ^ k % 32768 := ⟨_, rfl⟩
        obtain ⟨y, hy⟩ : ∃ y, y = b / 32768 ^ k % 32768 := ⟨_, rfl⟩
        rw [← hx] at hc1
        rw [← hy] at hc2
        rw [← hx, ← hy] at hle hsm
        have HLE := hid hle; have HSM := hid hsm
        clear hx hy hle hsm
        by_cases he : x = y
        · have hne2 : ((x : Int) != (y : Int)) = false := by simp [he]
          have HN := hid (HSM.out he)
          clear he HLE HSM
          go_wp2
          go_quiet (fail)
          go_wp2
          have hk := HK.out
          go_roundg (gk - 1)
          case measure => omega
          case rel => exact ⟨k, by omega, by omega, rfl, HN.out, by obtain ⟨n, hn⟩ := HW.out; exact ⟨_, by rw [hn, World.drewN_drewN]⟩⟩
        · have hne2 : ((x : Int) != (y : Int)) = true := by rw [bne_iff_ne]; omega
          have HN := hid (HLE.out he)
          clear he HLE HSM
          by_cases hxy : x < y
          · have hi : (x : Int) < (y : Int) := by omega
            have hdx : decide (x < y) = true := decide_eq_true hxy
            have HDX := hid hdx
            clear hxy hdx
            go_wp2
            go_quiet (fail)
            go_wp2
            go_quiet (fail)
            go_wp2
            try rw [HDX.out]
            go_ret
            exact ⟨by rw [HN.out, HDX.out]; rfl, by obtain ⟨n, hn⟩ := HW.out; exact ⟨_, by rw [hn, World.drewN_drewN, World.drewN_drewN]⟩⟩
          · have hi : ¬ (x : Int) < (y : Int) := by omega
            have hdx : decide (x < y) = false := decide_eq_false hxy
            have HDX := hid hdx
            clear hxy hdx
            go_wp2
            go_quiet (fail)
            go_wp2
            go_quiet (fail)
            go_wp2
            try rw [HDX.out]
            go_ret
            exact ⟨by rw [HN.out, HDX.out]; rfl, by obtain ⟨n, hn⟩ := HW.out; exact ⟨_, by rw [hn, World.drewN_drewN, World.drewN_drewN]⟩⟩
  · have hne : (((dg a).length : Int) != ((dg b).length : Int)) = true := by rw [bne_iff_ne]; omega
    have hlt : decide (a < b) = decide ((dg a).length < (dg b).length) := by
      rw [decide_eq_decide]
      constructor
      · intro h; have := dg_mono a b (Nat.le_of_lt h); omega
      · exact less_short a b
    have HLT := hid hlt
    clear hS hS' hlen hlt
    by_cases hx : (dg a).length < (dg b).length
    · have hi : ((dg a).length : Int) < ((dg b).length : Int) := by omega
      have hdx : decide ((dg a).length < (dg b).length) = true := decide_eq_true hx
      have HDX := hid hdx
      clear hx hdx
      go_enter Try.func26, Try.ntmps26
      go_wp2
      try rw [HDX.out]
      go_ret
      exact ⟨by rw [HLT.out, HDX.out]; rfl, 0, rfl⟩
    · have hi : ¬ ((dg a).length : Int) < ((dg b).length : Int) := by omega
      have hdx : decide ((dg a).length < (dg b).length) = false := decide_eq_false hx
      have HDX := hid hdx
      clear hx hdx
      go_enter Try.func26, Try.ntmps26
      go_wp2
      try rw [HDX.out]
      go_ret
      exact ⟨by rw [HLT.out, HDX.out]; rfl, 0, rfl⟩

set_option maxRecDepth 100000 in
set_option maxHeartbeats 800000 in
theorem Add_any (a b : Nat) (A A' : Option Addr) (c c' : Nat) (w : World) (hS : Sq w w.heap.size A c (ivs (dg a))) (hS' : Sq w w.heap.size A' c' (ivs (dg b))) (hl : (dg a).length ≤ 1073741824) (hl' : (dg b).length ≤ 1073741824) :
    Calls Try.prog 15 #[.slice A (dg a).length c, .slice A' (dg b).length c'] w (BigR w (a + b)) := by
  have HS := hid hS; have HS' := hid hS'
  obtain ⟨M, hM⟩ : ∃ M, M = max (dg a).length (dg b).length := ⟨_, rfl⟩
  have hM1 : (dg a).length ≤ M := by omega
  have hM2 : (dg b).length ≤ M := by omega
  have hM3 : M ≤ 1073741824 := by omega
  have hM4 : ∀ k, M < k ∨ k < (dg a).length ∨ k < (dg b).length ∨ k = M := fun k => by omega
  have HM4 := hid hM4
  clear hS hS' hM hM4
  go_enter Try.func15, Try.ntmps15
  go_wp2
  go_loopg [5, 6, 7] (2 * (M + 1)) (fun g v cy i wr => ∃ (k q : Nat) (xs : List Nat), g = 2 * (M + 1 - k) + q ∧ i = .int .i64 (k : Int) ∧ cy = .int .i64 (q : Int) ∧ OwnI wr w.heap.size v xs ∧ xs.length = k ∧ Dgs xs ∧ val xs + 32768 ^ k * q = a % 32768 ^ k + b % 32768 ^ k ∧ q ≤ 1 ∧ k ≤ M + 1 ∧ (M < k → q = 0) ∧ Below w.heap.size w wr)
  case atStart => exact ⟨0, 0, [], rfl, rfl, rfl, owni_nil _ _, rfl, (by intro x hx; cases hx), by simp [val, Nat.mod_one], by omega, by omega, fun _ => rfl, Below.refl _ _⟩
  case round =>
    obtain ⟨k, q, xs, hg, rfl, rfl, hown, hxl, hD, hv, hq, hk, hMk, hb⟩ := hrel
    have HO := hid hown; have HX := hid hxl; have HDG := hid hD; have HV := hid hv; have HMK := hid hMk; have HB := hid hb; have HG := hid hg
    obtain ⟨A5, c5, rfl, hS5⟩ := own_sl hown
    have hsz : w.heap.size ≤ wr.heap.size := HB.out.size
    rw [hxl]
    have hO2 : wr.ownsRow w.heap.size 3 1 (.slice A5 k c5) k (ivs xs) := by
      have h := hown; unfold OwnI at h; rwa [hxl] at h
    have HO2 := hid hO2; have HS5 := hid hS5.sq
    clear hown hxl hD hv hMk hb hg hS5 hO2
    by_cases hgo : k < (dg a).length ∨ k < (dg b).length ∨ 0 < q
    · have hkM : k ≤ M := by have := HMK.out; omega
      obtain ⟨x, hx⟩ : ∃ x, x = a / 32768 ^ k % 32768 := ⟨_, rfl⟩
      obtain ⟨y, hy⟩ : ∃ y, y = b / 32768 ^ k % 32768 := ⟨_, rfl⟩
      have hda := fun W => digit_any A (dg a) c w.heap.size k W
      have HDA : Hid (∀ W, Below w.heap.size w W → Calls Try.prog 32 #[.slice A (dg a).length c, .int .i64 (k : Int)] W fun e w' => e = .returned (.int .i64 (x : Int)) ∧ W = w') := hid fun W hW => by
        have h := digit_any A (dg a) c w.heap.size k W (HS.out.below hW) (by omega)
        rw [dg_getD, ← hx] at h; exact h
      have HDB : Hid (∀ W, Below w.heap.size w W → Calls Try.prog 32 #[.slice A' (dg b).length c', .int .i64 (k : Int)] W fun e w' => e = .returned (.int .i64 (y : Int)) ∧ W = w') := hid fun W hW => by
        have h := digit_any A' (dg b) c' w.heap.size k W (HS'.out.below hW) (by omega)
        rw [dg_getD, ← hy] at h; exact h
      have hrd := add_round a b k (val xs) q HV.out hq
      rw [← hx, ← hy] at hrd
      have hx1 : x < 32768 := by rw [hx]; exact Nat.mod_lt _ (by omega)
      have hy1 : y < 32768 := by rw [hy]; exact Nat.mod_lt _ (by omega)
      have hnew : M < k + 1 → (x + y + q) / 32768 = 0 := by
        intro h
        have hke : k = M := by omega
        have hxz : x = 0 := by rw [hx, dg_short a k (by omega)]
        have hyz : y = 0 := by rw [hy, dg_short b k (by omega)]
        rw [hxz, hyz]; omega
      have HRD := hid hrd; have HNW := hid hnew
      clear hx hy hda hrd hnew
      have hk0 : (0 : Int) ≤ (k : Int) := by omega
      have hq0 : (0 : Int) ≤ (q : Int) := by omega
      have hs : (0 : Int) ≤ (x : Int) + (y : Int) + (q : Int) := by omega
      have hs2 : (x : Int) + (y : Int) + (q : Int) ≤ 65535 := by omega
      have hs3 : ((x : Int) + (y : Int) + (q : Int)) / 32768 = (((x + y + q) / 32768 : Nat) : Int) := by omega
      by_cases e1 : k < (dg a).length
      · have e1i : (k : Int) < ((dg a).length : Int) := by omega
        clear hgo
        go_wp2_with fail
        refine (HDA.out _ HB.out).mono ?_
        rintro e w' ⟨rfl, rfl⟩
        go_wp2_with fail
        refine (HDB.out _ HB.out).mono ?_
        rintro e w' ⟨rfl, rfl⟩
        go_wp2_with (at_builtin; refine wpList_append_lie rfl (.tmp 34) (.tmp 37) 29 rfl w.heap.size 3 (.int .i64 0) 8 Try.underlying29 infoI64 rfl rfl (World.ownsRow.alloc HO2.out _) rfl rfl (Lie.new1 _ _ _) ?a1 ?b1 ?c1 ?e1 ?_)
        case a1 => intro u hu; simp at hu; subst hu; rfl
        case b1 => rw [List.length_singleton]; unfold maxLen; omega
        case c1 => rw [List.length_singleton]; omega
        case e1 => simp; omega
        intro v2 w2 hown2 hg2 _
        have hO3 : OwnI w2 w.heap.size v2 (xs ++ [(x + y + q) % 32768]) := owni_snoc hown2 (by rw [HX.out]) (by omega)
        have hB2 : Below w.heap.size w w2 := (HB.out.alloc hsz _).grown hg2 (by simp; omega) (fun q h => own_lt (World.ownsRow.alloc HO2.out (.cells #[.int .i64 (((x : Int) + (y : Int) + (q : Int)) % 32768)] 3)) q h)
        have HO3 := hid hO3; have HB2 := hid hB2
        clear hown2 hg2 hO3 hB2
        go_wp2
        have hg := HG.out
        go_roundg (2 * (M + 1 - (k + 1)) + (x + y + q) / 32768)
        case measure => have := HRD.out.2; omega
        case rel => exact ⟨k + 1, (x + y + q) / 32768, _, rfl, by go_num, by go_num, HO3.out, by rw [List.length_append, HX.out]; rfl, HDG.out.snoc (Nat.mod_lt _ (by omega)), by rw [val_snoc, HX.out]; exact HRD.out.1, HRD.out.2, by omega, HNW.out, HB2.out⟩
      · by_cases e2 : k < (dg b).length
        · have e1i : ¬ (k : Int) < ((dg a).length : Int) := by omega
          have e2i : (k : Int) < ((dg b).length : Int) := by omega
          have e1d : decide (k < (dg a).length) = false := decide_eq_false e1
          have e2d : decide (k < (dg b).length) = true := decide_eq_true e2
          clear hgo
          go_wp2_with fail
          refine (HDA.out _ HB.out).mono ?_
          rintro e w' ⟨rfl, rfl⟩
          go_wp2_with fail
          refine (HDB.out _ HB.out).mono ?_
          rintro e w' ⟨rfl, rfl⟩
          go_wp2_with (at_builtin; refine wpList_append_lie rfl (.tmp 34) (.tmp 37) 29 rfl w.heap.size 3 (.int .i64 0) 8 Try.underlying29 infoI64 rfl rfl (World.ownsRow.alloc HO2.out _) rfl rfl (Lie.new1 _ _ _) ?a2 ?b2 ?c2 ?e2 ?_)
          case a2 => intro u hu; simp at hu; subst hu; rfl
          case b2 => rw [List.length_singleton]; unfold maxLen; omega
          case c2 => rw [List.length_singleton]; omega
          case e2 => simp; omega
          intro v2 w2 hown2 hg2 _
          have hO3 : OwnI w2 w.heap.size v2 (xs ++ [(x + y + q) % 32768]) := owni_snoc hown2 (by rw [HX.out]) (by omega)
          have hB2 : Below w.heap.size w w2 := (HB.out.alloc hsz _).grown hg2 (by simp; omega) (fun q h => own_lt (World.ownsRow.alloc HO2.out (.cells #[.int .i64 (((x : Int) + (y : Int) + (q : Int)) % 32768)] 3)) q h)
          have HO3 := hid hO3; have HB2 := hid hB2
          clear hown2 hg2 hO3 hB2
          go_wp2
          have hg := HG.out
          go_roundg (2 * (M + 1 - (k + 1)) + (x + y + q) / 32768)
          case measure => have := HRD.out.2; omega
          case rel => exact ⟨k + 1, (x + y + q) / 32768, _, rfl, by go_num, by go_num, HO3.out, by rw [List.length_append, HX.out]; rfl, HDG.out.snoc (Nat.mod_lt _ (by omega)), by rw [val_snoc, HX.out]; exact HRD.out.1, HRD.out.2, by omega, HNW.out, HB2.out⟩
        · have e1i : ¬ (k : Int) < ((dg a).length : Int) := by omega
          have e2i : ¬ (k : Int) < ((dg b).length : Int) := by omega
          have e1d : decide (k < (dg a).length) = false := decide_eq_false e1
          have e2d : decide (k < (dg b).length) = false := decide_eq_false e2
          have e3i : (0 : Int) < (q : Int) := by omega
          clear hgo
          go_wp2_with fail
          refine (HDA.out _ HB.out).mono ?_
          rintro e w' ⟨rfl, rfl⟩
          go_wp2_with fail
          refine (HDB.out _ HB.out).mono ?_
          rintro e w' ⟨rfl, rfl⟩
          go_wp2_with (at_builtin; refine wpList_append_lie rfl (.tmp 34) (.tmp 37) 29 rfl w.heap.size 3 (.int .i64 0) 8 Try.underlying29 infoI64 rfl rfl (World.ownsRow.alloc HO2.out _) rfl rfl (Lie.new1 _ _ _) ?a3 ?b3 ?c3 ?e3 ?_)
          case a3 => intro u hu; simp at hu; subst hu; rfl
          case b3 => rw [List.length_singleton]; unfold maxLen; omega
          case c3 => rw [List.length_singleton]; omega
          case e3 => simp; omega
          intro v2 w2 hown2 hg2 _
          have hO3 : OwnI w2 w.heap.size v2 (xs ++ [(x + y + q) % 32768]) := owni_snoc hown2 (by rw [HX.out]) (by omega)
          have hB2 : Below w.heap.size w w2 := (HB.out.alloc hsz _).grown hg2 (by simp; omega) (fun q h => own_lt (World.ownsRow.alloc HO2.out (.cells #[.int .i64 (((x : Int) + (y : Int) + (q : Int)) % 32768)] 3)) q h)
          have HO3 := hid hO3; have HB2 := hid hB2
          clear hown2 hg2 hO3 hB2
          go_wp2
          have hg := HG.out
          go_roundg (2 * (M + 1 - (k + 1)) + (x + y + q) / 32768)
          case measure => have := HRD.out.2; omega
          case rel => exact ⟨k + 1, (x + y + q) / 32768, _, rfl, by go_num, by go_num, HO3.out, by rw [List.length_append, HX.out]; rfl, HDG.out.snoc (Nat.mod_lt _ (by omega)), by rw [val_snoc, HX.out]; exact HRD.out.1, HRD.out.2, by omega, HNW.out, HB2.out⟩
    · have e1 : ¬ k < (dg a).length := fun h => hgo (.inl h)
      have e2 : ¬ k < (dg b).length := fun h => hgo (.inr (.inl h))
      have hq0 : q = 0 := by
        rcases Nat.eq_zero_or_pos q with h | h
        · exact h
        · exact absurd (.inr (.inr h)) hgo
      subst hq0
      have e1i : ¬ (k : Int) < ((dg a).length : Int) := by omega
      have e2i : ¬ (k : Int) < ((dg b).length : Int) := by omega
      have e1d : decide (k < (dg a).length) = false := decide_eq_false e1
      have e2d : decide (k < (dg b).length) = false := decide_eq_false e2
      have e3i : ¬ (0 : Int) < ((0 : Nat) : Int) := by omega
      have hend := add_end a b k (val xs) HV.out (by omega) (by omega)
      have HT := hid (trim_any A5 xs c5 wr.heap.size wr HS5.out HDG.out (by rw [HX.out]; omega))
      rw [HX.out, hend] at HT
      clear hgo hend
      go_wp2_with fail
      refine HT.out.mono ?_
      rintro e w' ⟨rfl, hS6, rfl⟩
      have HS6 := hid hS6
      clear hS6
      go_wp2
      go_ret
      exact ⟨A5, c5, rfl, HS6.out, HB.out⟩
end Go.Proofs.Ytacikkhhacladaa
