/-
  The document's own numbers: differences; the lowest 64 bits.
-/
import Derived.Test.YtealegfmmeklcaaBig3
import Derived.Test.YtealegfmmeklcaaLoops
namespace Go.Proofs.Ytealegfmmeklcaa
open Go.RowKit
set_option linter.unusedVariables false
set_option linter.unusedSimpArgs false

theorem digit_l (a : Nat) (A : Option Addr) (c B k x : Nat) (W : World) (hS : Sq W B A c (ivs (dg a))) (hk : k ≤ 1099511627776) (hx : x = a / 32768 ^ k % 32768) (n : Nat) :
    Calls Try.prog 80 #[.slice A (dg a).length c, .int .i64 (k : Int)] (W.drewN n) fun e w' => e = .returned (.int .i64 (x : Int)) ∧ ∃ m, w' = W.drewN m := by
  have h := digit_any A (dg a) c B k (W.drewN n) (hS.keep fun _ _ _ => rfl) hk
  rw [dg_getD, ← hx] at h
  exact h.mono fun _ _ h => ⟨h.1, n, h.2.symm⟩

set_option maxHeartbeats 1600000 in
theorem Sub_any (a b : Nat) (A A' : Option Addr) (c c' : Nat) (w : World) (hS : Sq w w.heap.size A c (ivs (dg a))) (hS' : Sq w w.heap.size A' c' (ivs (dg b))) (hl : (dg a).length ≤ 1073741824) (hba : b ≤ a) :
    Calls Try.prog 44 #[.slice A (dg a).length c, .slice A' (dg b).length c'] w (BigR w (a - b)) := by
  have HS := hid hS; have HS' := hid hS'; have HBA := hid hba
  clear hS hS' hba
  go_enter Try.func44, Try.ntmps44
  go_wp2
  go_loopg [5, 6, 7] (dg a).length (fun g v cy i wr => ∃ (k q : Nat) (xs : List Nat), k + g = (dg a).length ∧ i = .int .i64 (k : Int) ∧ cy = .int .i64 (q : Int) ∧ OwnI wr w.heap.size v xs ∧ xs.length = k ∧ Dgs xs ∧ val xs + b % 32768 ^ k = a % 32768 ^ k + 32768 ^ k * q ∧ q ≤ 1 ∧ Below w.heap.size w wr)
  case atStart => exact ⟨0, 0, [], by omega, rfl, rfl, owni_nil _ _, rfl, (by intro x hx; cases hx), by simp [val, Nat.mod_one], by omega, Below.refl _ _⟩
  case round =>
    obtain ⟨k, q, xs, hg, rfl, rfl, hown, hxl, hD, hv, hq, hb⟩ := hrel
    obtain ⟨wq, rfl⟩ : ∃ wq : World, wq = wr := ⟨_, rfl⟩
    have HX := hid hxl; have HDG := hid hD; have HV := hid hv; have HB := hid hb; have HG := hid hg
    obtain ⟨A5, c5, rfl, hS5⟩ := own_sl hown
    have hsz : w.heap.size ≤ wq.heap.size := HB.out.size
    rw [hxl]
    have hO2 : wq.ownsRow w.heap.size 3 1 (.slice A5 k c5) k (ivs xs) := by
      have h := hown; unfold OwnI at h; rwa [hxl] at h
    have HO2 := hid hO2; have HS5 := hid hS5.sq
    have hka : k ≤ (dg a).length := by omega
    clear hown hxl hD hv hb hg hS5 hO2
    by_cases hgo : k < (dg a).length
    · have hki : (k : Int) < ((dg a).length : Int) := by omega
      have hk0 : (0 : Int) ≤ (k : Int) := by omega
      obtain ⟨x, hx⟩ : ∃ x, x = a / 32768 ^ k % 32768 := ⟨_, rfl⟩
      obtain ⟨y, hy⟩ : ∃ y, y = b / 32768 ^ k % 32768 := ⟨_, rfl⟩
      have HDB := hid (digit_l b A' c' w.heap.size k y wq (HS'.out.below HB.out) (by omega) hy)
      obtain ⟨bA, oA, rfl, hbA, hcx⟩ := (HS.out.below HB.out).dig hgo
      rw [dg_getD, ← hx] at hcx
      have hrd := sub_round a b k (val xs) q HV.out hq
      simp only [← hx, ← hy] at hrd
      have hx1 : x < 32768 := by rw [hx]; exact Nat.mod_lt _ (by omega)
      have hy1 : y < 32768 := by rw [hy]; exact Nat.mod_lt _ (by omega)
      obtain ⟨d1, hd1⟩ : ∃ d : Int, d = (x : Int) - (y : Int) := ⟨_, rfl⟩
      obtain ⟨d2, hd2⟩ : ∃ d : Int, d = d1 - (q : Int) := ⟨_, rfl⟩
      have f1 : IntKind.i64.wrap ((x : Int) - (y : Int)) = d1 := by rw [hd1]; exact IntWalk.i64_in _ (by omega)
      have f2 : IntKind.i64.wrap (d1 - (q : Int)) = d2 := by rw [hd2]; exact IntWalk.i64_in _ (by omega)
      have HRD := hid hrd
      clear hx hy hrd
      by_cases hlt : x < y + q
      · have hneg : d2 < 0 := by omega
        obtain ⟨r, hr⟩ : ∃ r : Nat, r = x + 32768 - y - q := ⟨_, rfl⟩
        have f3 : IntKind.i64.wrap (d2 + 32768) = (r : Int) := by rw [show d2 + 32768 = (r : Int) by omega]; exact IntWalk.i64_in _ (by omega)
        have f4 : d2 + 32768 = (r : Int) := by omega
        have hrl : r < 32768 := by omega
        have HR := hid hr
        clear f4
        have HRV : Hid (val (xs ++ [r]) + b % 32768 ^ (k + 1) = a % 32768 ^ (k + 1) + 32768 ^ (k + 1) * 1) := hid (by
          rw [val_snoc, HX.out, hr]; exact HRD.out.1 hlt)
        clear hd1 hd2 hr HRD
        go_wp2
        go_quiet ((go_at_call 80; with_reducible exact HDB.out _))
        obtain ⟨we, hwe⟩ : ∃ we : World, we = wq.drewN nq := ⟨_, rfl⟩
        have hBE : Below w.heap.size w we := by rw [hwe]; exact belowB_drewN HB.out nq
        have hOE : we.ownsRow w.heap.size 3 1 (.slice A5 k c5) k (ivs xs) := by rw [hwe]; exact HO2.out
        rw [← hwe]
        have HO3 := hid (World.ownsRow.alloc hOE (.cells #[.int .i64 (r : Int)] 3))
        have HBE := hid hBE
        clear hwe hBE hOE hcx f1 f2 HDB
        go_wp2_with (at_builtin; refine wpList_append_lie rfl (.tmp 29) (.tmp 31) 34 rfl w.heap.size 3 (.int .i64 0) 8 Try.underlying34 infoI64 rfl rfl HO3.out rfl rfl (Lie.new1 _ _ _) (by intro u hu; simp at hu; subst hu; rfl) (by rw [List.length_singleton]; unfold maxLen; omega) (by rw [List.length_singleton]; omega) (by have := HBE.out.size; simp; omega) ?_)
        intro v2 w2 hown2 hg2 _
        have hO3 : OwnI w2 w.heap.size v2 (xs ++ [r]) := owni_snoc hown2 (by rw [HX.out]) rfl
        have hB2 : Below w.heap.size w w2 := (HBE.out.alloc HBE.out.size _).grown hg2 (by have := HBE.out.size; simp; omega) (fun q h => own_lt HO3.out q h)
        have HO4 := hid hO3; have HB2 := hid hB2
        clear hown2 hg2 hO3 hB2 HO3
        go_wp2
        have hg := HG.out
        go_roundg ((dg a).length - k - 1)
        case measure => omega
        case rel => exact ⟨k + 1, 1, _, by omega, by go_num, rfl, HO4.out, by rw [List.length_append, HX.out]; rfl, HDG.out.snoc hrl, HRV.out, by omega, HB2.out⟩
      · obtain ⟨r, hr⟩ : ∃ r : Nat, r = x - y - q := ⟨_, rfl⟩
        have hneg : ¬ (r : Int) < 0 := by omega
        have hd2r : d2 = (r : Int) := by omega
        rw [hd2r] at f2
        clear hd2 hd2r
        have hrl : r < 32768 := by omega
        have HRV : Hid (val (xs ++ [r]) + b % 32768 ^ (k + 1) = a % 32768 ^ (k + 1) + 32768 ^ (k + 1) * 0) := hid (by
          rw [val_snoc, HX.out, hr]; exact HRD.out.2 (by omega))
        clear hd1 hr HRD
        go_wp2
        go_quiet ((go_at_call 80; with_reducible exact HDB.out _))
        obtain ⟨we, hwe⟩ : ∃ we : World, we = wq.drewN nq := ⟨_, rfl⟩
        have hBE : Below w.heap.size w we := by rw [hwe]; exact belowB_drewN HB.out nq
        have hOE : we.ownsRow w.heap.size 3 1 (.slice A5 k c5) k (ivs xs) := by rw [hwe]; exact HO2.out
        rw [← hwe]
        have HO3 := hid (World.ownsRow.alloc hOE (.cells #[.int .i64 (r : Int)] 3))
        have HBE := hid hBE
        clear hwe hBE hOE hcx f1 f2 HDB
        go_wp2_with (at_builtin; refine wpList_append_lie rfl (.tmp 29) (.tmp 31) 34 rfl w.heap.size 3 (.int .i64 0) 8 Try.underlying34 infoI64 rfl rfl HO3.out rfl rfl (Lie.new1 _ _ _) (by intro u hu; simp at hu; subst hu; rfl) (by rw [List.length_singleton]; unfold maxLen; omega) (by rw [List.length_singleton]; omega) (by have := HBE.out.size; simp; omega) ?_)
        intro v2 w2 hown2 hg2 _
        have hO3 : OwnI w2 w.heap.size v2 (xs ++ [r]) := owni_snoc hown2 (by rw [HX.out]) rfl
        have hB2 : Below w.heap.size w w2 := (HBE.out.alloc HBE.out.size _).grown hg2 (by have := HBE.out.size; simp; omega) (fun q h => own_lt HO3.out q h)
        have HO4 := hid hO3; have HB2 := hid hB2
        clear hown2 hg2 hO3 hB2 HO3
        go_wp2
        have hg := HG.out
        go_roundg ((dg a).length - k - 1)
        case measure => omega
        case rel => exact ⟨k + 1, 0, _, by omega, by go_num, rfl, HO4.out, by rw [List.length_append, HX.out]; rfl, HDG.out.snoc hrl, HRV.out, by omega, HB2.out⟩
    · obtain rfl : k = (dg a).length := by omega
      have hki : ¬ ((dg a).length : Int) < ((dg a).length : Int) := by omega
      have hval : val xs = a - b := sub_end a b _ _ q HV.out HBA.out (Nat.le_refl _) (by have h := val_lt xs HDG.out; rw [HX.out] at h; exact h)
      have HT := hid (trim_any A5 xs c5 wq.heap.size wq HS5.out HDG.out (by rw [HX.out]; omega))
      rw [hval, HX.out] at HT
      clear HO2 HS5
      go_wp2_with fail
      refine HT.out.mono ?_
      rintro e w' ⟨rfl, hS, rfl⟩
      have HF := hid hS
      clear hS HT
      go_wp2
      go_ret
      exact ⟨A5, c5, rfl, HF.out, HB.out⟩

set_option maxHeartbeats 800000 in
/-- The lowest 64 bits of a number that has no more. -/
theorem Low_any (N : Nat) (A : Option Addr) (c B : Nat) (w : World) (hS : Sq w B A c (ivs (dg N))) (hN : N < 18446744073709551616) :
    Calls Try.prog 51 #[.slice A (dg N).length c] w fun e w' => e = .returned (.int .u64 (N : Int)) ∧ w = w' := by
  have HS := hid hS; have HN := hid hN
  have h5 : N / 32768 ^ 5 = 0 := Nat.div_eq_of_lt (Nat.lt_trans hN (by decide))
  have H5 := hid h5
  clear hS hN h5
  go_enter Try.func51, Try.ntmps51
  go_wp2
  go_loopg [3, 4] 5 (fun g n i wr => ∃ k m : Nat, g = k ∧ i = .int .i64 ((k : Int) - 1) ∧ n = .int .u64 (m : Int) ∧ m = N / 32768 ^ k ∧ k ≤ 5 ∧ wr = w)
  case atStart => exact ⟨5, 0, rfl, rfl, rfl, H5.out.symm, by omega, rfl⟩
  case round =>
    obtain ⟨k, m, rfl, rfl, rfl, hm, hk, rfl⟩ := hrel
    have HM := hid hm
    clear hm
    rcases gk with _ | i
    · have h0 : ¬ (0 : Int) ≤ ((0 : Nat) : Int) - 1 := by omega
      have hmn : m = N := by rw [HM.out]; simp
      subst hmn
      clear HM
      go_wp2
      go_ret
      exact ⟨rfl, rfl⟩
    · have e1 : ((i + 1 : Nat) : Int) - 1 = (i : Int) := by omega
      rw [e1]
      have h0 : (0 : Int) ≤ (i : Int) := by omega
      obtain ⟨x, hx⟩ : ∃ x, x = N / 32768 ^ i % 32768 := ⟨_, rfl⟩
      have hD := digit_any A (dg N) c B i wr HS.out (by omega)
      rw [dg_getD, ← hx] at hD
      have hx1 : x < 32768 := by rw [hx]; exact Nat.mod_lt _ (by omega)
      have hn := div_next N i
      rw [← hx, ← HM.out] at hn
      have hle : N / 32768 ^ i ≤ N := Nat.div_le_self _ _
      have hlt := HN.out
      obtain ⟨z, hz⟩ : ∃ z, z = m * 32768 := ⟨_, rfl⟩
      obtain ⟨r, hr⟩ : ∃ r, r = z + x := ⟨_, rfl⟩
      have f1 : IntKind.u64.wrap ((m : Int) * 32768) = (z : Int) := by rw [IntKind.wrap_u64]; omega
      have f2 : IntKind.u64.wrap (x : Int) = (x : Int) := by rw [IntKind.wrap_u64]; omega
      have f3 : IntKind.u64.wrap ((z : Int) + (x : Int)) = (r : Int) := by rw [IntKind.wrap_u64]; omega
      have hnext : r = N / 32768 ^ i := by omega
      have HD := hid hD; have HNX := hid hnext
      clear hx hD hn hle hlt hz hr hnext
      go_wp2_with fail
      refine HD.out.mono ?_
      rintro e w' ⟨rfl, rfl⟩
      go_wp2
      go_roundg i
      case measure => omega
      case rel => exact ⟨i, r, rfl, rfl, rfl, HNX.out, by omega, rfl⟩
end Go.Proofs.Ytealegfmmeklcaa
