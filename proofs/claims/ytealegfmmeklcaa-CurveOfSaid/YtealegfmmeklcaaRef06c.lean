/-
  The document's numbers modulo the prime: noughts cut off, the prime.
  The document's numbers modulo the prime: the rest.
  The document's numbers modulo the prime: products, sums, differences; of bytes; which are the same.
-/
import Derived.Test.YtealegfmmeklcaaBig5
import Derived.Test.YtealegfmmeklcaaFldP
import Derived.Test.YtealegfmmeklcaaBigB
import Derived.Deep.RegionHeld3
import Derived.Test.YtealegfmmeklcaaFld7
namespace Go.Proofs.Ytealegfmmeklcaa
section
open Go.RowKit
set_option linter.unusedVariables false
set_option linter.unusedSimpArgs false

theorem dg_drop (n k : Nat) : (dg n).drop k = dg (n / 32768 ^ k) := by
  induction k generalizing n with
  | zero => simp
  | succ k ih =>
    by_cases h : n = 0
    · subst h; rw [dg_zero, Nat.zero_div, dg_zero]; rfl
    · rw [dg_pos n h, List.drop_succ_cons, ih, Nat.div_div_eq_div_mul, Nat.pow_succ, Nat.mul_comm]
theorem dg_take_val (n k : Nat) (h : k ≤ (dg n).length) : val ((dg n).take k) = n % 32768 ^ k := val_digits n (dg n) (fun j _ => dg_getD n j) k h

set_option maxHeartbeats 800000 in
theorem trim6_any (A : Option Addr) (xs : List Nat) (c B : Nat) (w : World) (hS : Sq w B A c (ivs xs)) (hd : Dgs xs) (hl : xs.length ≤ 1099511627776) :
    Calls Try.prog 85 #[.slice A xs.length c] w fun e w' => e = .returned (.slice A (dg (val xs)).length c) ∧ Sq w' B A c (ivs (dg (val xs))) ∧ w = w' := by
  have hcap := hS.cap
  rw [ivs_length] at hcap
  obtain ⟨hc1, hc2⟩ := hcap
  have HS := hid hS; have HD := hid hd
  clear hS hd
  go_enter Try.func85, Try.ntmps85
  go_wp2
  go_loopg [0] (xs.length + 1) (fun g v wr => ∃ k : Nat, v = .slice A k c ∧ k ≤ xs.length ∧ g = k + 1 ∧ val (xs.take k) = val xs ∧ wr = w)
  case atStart => exact ⟨xs.length, rfl, Nat.le_refl _, rfl, by rw [List.take_length], rfl⟩
  case round =>
    obtain ⟨k, rfl, hk, hg, hv, rfl⟩ := hrel
    have HG := hid hg; have HV := hid hv
    clear hg hv
    rcases k with _ | k
    · have hz : dg (val xs) = [] := by rw [← HV.out, List.take_zero]; exact dg_zero
      have HZ := hid hz
      clear hz
      have h0 : ¬ (0 : Int) < ((0 : Nat) : Int) := by omega
      go_wp2
      go_ret
      exact ⟨by rw [HZ.out]; rfl, by rw [HZ.out]; exact HS.out.take 0, rfl⟩
    · have hkl : k < xs.length := by omega
      obtain ⟨b, o, rfl, hb, hcell⟩ := HS.out.dig hkl
      have hlk : (xs.take (k + 1)).length = k + 1 := by rw [List.length_take]; omega
      have hgd : (xs.take (k + 1)).getD k 0 = xs.getD k 0 := by simp [List.getD_eq_getElem?_getD, List.getElem?_take]
      obtain ⟨x, hx⟩ : ∃ x, x = xs.getD k 0 := ⟨_, rfl⟩
      rw [← hx] at hcell hgd
      have h0 : (0 : Int) < ((k + 1 : Nat) : Int) := by omega
      have h1 : (((k + 1 : Nat) : Int) - 1) = (k : Int) := by omega
      have h2 : (k : Int) < ((k + 1 : Nat) : Int) := by omega
      have hk0 : (0 : Int) ≤ (k : Int) := by omega
      have hkc : (k : Int) ≤ (c : Int) := by omega
      have hkm : ((k + 1 : Nat) : Int) ≤ 9223372036854775807 := by omega
      by_cases hx0 : x = 0
      · have hv2 : val (xs.take k) = val xs := by
          rw [← HV.out, ← val_take_nought (xs.take (k + 1)) k hlk (by rw [hgd, hx0]), List.take_take, Nat.min_eq_left (by omega)]
        have hxi : ((x : Int) == 0) = true := by simp [hx0]
        have HV2 := hid hv2
        clear hlk hgd hx hx0 hv2
        go_wp2
        have hg := HG.out
        go_roundg (k + 1)
        case measure => omega
        case rel => exact ⟨k, rfl, by omega, rfl, HV2.out, rfl⟩
      · have hz : dg (val xs) = xs.take (k + 1) := by
          rw [← HV.out]
          exact dg_val _ (HD.out.take _) (fun q hq => by
            have : q = k := by omega
            subst this
            rw [hgd]; exact hx0)
        have hxi : ((x : Int) == 0) = false := by simp [hx0]
        have HZ := hid hz; have HLK := hid hlk
        clear hlk hgd hx hx0 hz
        go_wp2
        go_ret
        exact ⟨by rw [HZ.out, HLK.out]; rfl, by rw [HZ.out]; have h := HS.out.take (k + 1); simpa [ivs, List.map_take] using h, rfl⟩

theorem P_any (w : World) : Calls Try.prog 13 #[] w (BigR w pp) := by
  have hp : 2 ^ 255 - 19 = pp := by decide +kernel
  have HPOW := hid (fun W => Pow_any 255 W (by omega))
  have HL1 := hid (dgl6 (2 ^ 255) (by decide +kernel)); have HL2 := hid (dgl6 19 (by decide +kernel))
  obtain ⟨T, hT⟩ : ∃ T, T = 2 ^ 255 := ⟨_, rfl⟩
  have hle : 19 ≤ T := by rw [hT]; decide +kernel
  rw [← hT] at hp HPOW HL1
  have HP := hid hp; have HN := hid (fun W => Num_any 19 W (by omega)); have HLE := hid hle
  clear hp hT hle
  go_enter Try.func13, Try.ntmps13
  go_wp2_with fail
  refine (HPOW.out _).mono ?_
  rintro e w1 ⟨A1, c1, rfl, hS1, hb1⟩
  have HS1 := hid hS1; have HB1 := hid hb1
  clear hS1 hb1
  go_wp2_with fail
  refine (HN.out _).mono ?_
  rintro e w2 ⟨A2, c2, rfl, hS2, hb2⟩
  have HS2 := hid hS2; have HB2 := hid (HB1.out.trans (hb2.mono HB1.out.size)); have HS1' := hid (HS1.out.on6 hb2)
  clear hS2 hb2 HS1 HB1
  go_wp2_with fail
  refine (Sub_any T 19 A1 A2 c1 c2 w2 HS1'.out HS2.out (Nat.le_trans HL1.out (by omega)) HLE.out).mono ?_
  rw [HP.out]
  rintro e w3 ⟨A3, c3, rfl, hS3, hb3⟩
  have HS3 := hid hS3; have HB3 := hid (HB2.out.trans (hb3.mono HB2.out.size))
  clear hS3 hb3
  go_wp2
  go_ret
  exact ⟨A3, c3, rfl, HS3.out, HB3.out⟩
end

section
open Go.RowKit
set_option linter.unusedVariables false
set_option linter.unusedSimpArgs false

theorem erow6 (W : World) (e : TypeId) {k base : Nat} (h : W.heap.size = k) (hb : base ≤ k) : (W.alloc (.cells #[] e)).ownsRow base e 1 (.slice (some ⟨k, 0, none⟩) 0 0) 0 [] := by
  subst h
  exact World.ownsRow_lit W #[] 0 hb (by simp) rfl
theorem pow17 : (32768 : Nat) ^ 17 = pp + 19 := by decide +kernel
/-- What stands above 17 digits counts 19 times. -/
theorem mod_fold (n : Nat) : (n % 32768 ^ 17 + n / 32768 ^ 17 * 19) % pp = n % pp := by
  have h := Nat.div_add_mod n (32768 ^ 17)
  have e : n = (n % 32768 ^ 17 + n / 32768 ^ 17 * 19) + pp * (n / 32768 ^ 17) := by
    conv => lhs; rw [← h]
    rw [pow17, Nat.add_mul]
    have := Nat.mul_comm 19 (n / (pp + 19))
    omega
  conv => rhs; rw [e]
  rw [Nat.add_mul_mod_self_left]
theorem mod_fold_lt (n : Nat) (h : 32768 ^ 17 ≤ n) : n % 32768 ^ 17 + n / 32768 ^ 17 * 19 < n := by
  have h1 := Nat.div_add_mod n (32768 ^ 17)
  have h2 : 1 ≤ n / 32768 ^ 17 := (Nat.one_le_div_iff (Nat.pow_pos (by omega))).2 h
  have h3 : n / 32768 ^ 17 * 20 ≤ n / 32768 ^ 17 * 32768 ^ 17 := Nat.mul_le_mul_left _ (by decide +kernel)
  rw [Nat.mul_comm (32768 ^ 17)] at h1
  generalize n / 32768 ^ 17 = q at *
  generalize q * 32768 ^ 17 = z at *
  omega

set_option maxHeartbeats 2000000 in
theorem Mod_any (N : Nat) (A : Option Addr) (c : Nat) (w : World) (hS : Sq w w.heap.size A c (ivs (dg N))) (hN : N < 32768 ^ 50) :
    Calls Try.prog 66 #[.slice A (dg N).length c] w (BigR w (N % pp)) := by
  have HS := hid hS
  have HN19 := hid (fun W => Num_any 19 W (by omega)); have HL19 := hid (dgl6 19 (by decide +kernel))
  have HL := hid (fun n (h : n ≤ N) => dgl6 n (Nat.lt_of_le_of_lt h hN))
  have HP := hid P_any; have HLP := hid (dgl6 pp (by decide +kernel))
  obtain ⟨R, hR⟩ : ∃ R, R = N % pp := ⟨_, rfl⟩
  rw [← hR]
  have HR := hid hR
  clear hS hR hN
  go_enter Try.func66, Try.ntmps66
  go_wp2
  go_loopg [0] N (fun g v wr => ∃ (n : Nat) (A : Option Addr) (c : Nat), v = .slice A (dg n).length c ∧ Sq wr wr.heap.size A c (ivs (dg n)) ∧ g = n ∧ n ≤ N ∧ n % pp = R ∧ Below w.heap.size w wr)
  case atStart => exact ⟨N, A, c, rfl, HS.out, rfl, Nat.le_refl _, HR.out.symm, Below.refl _ _⟩
  case round =>
    clear HS HR
    obtain ⟨n, A1, c1, rfl, hS, hg, hn, hm, hb⟩ := hrel
    have HS := hid hS; have HG := hid hg; have HM := hid hm; have HB := hid hb; have HLN := hid (HL.out n hn)
    have hcap := hS.cap
    rw [ivs_length] at hcap
    obtain ⟨hcap1, hcap2⟩ := hcap
    clear hS hg hm hb
    by_cases hlt : 17 < (dg n).length
    · have hx : (17 : Int) < ((dg n).length : Int) := by omega
      obtain ⟨l, hl⟩ : ∃ l, l = (dg n).length := ⟨_, rfl⟩
      have hn17 : 32768 ^ 17 ≤ n := by
        rcases Nat.lt_or_ge n (32768 ^ 17) with h | h
        · have := (dg_length_le n 17).2 h; omega
        · exact h
      have hdr := dg_drop n 17
      have htk := dg_take_val n 17 (by omega)
      rw [← hl] at hx hcap1 ⊢
      have h17c : (17 : Int) ≤ (c1 : Int) := by omega
      have h17l : (17 : Int) ≤ (l : Int) := by omega
      obtain ⟨b, o, rfl, hbl⟩ := HS.out.form (by rw [ivs_length]; omega)
      have hlie : Lie wr wr.heap.size (some ⟨b, o, none⟩) (ivs ((dg n).take 17)) := by
        have h := (HS.out.take 17).lie
        simpa [ivs, List.map_take] using h
      have hup : Sq wr wr.heap.size (some ⟨b, o + 17, none⟩) (c1 - 17) (ivs (dg (n / 32768 ^ 17))) := by
        have h := HS.out.drop 17 (by omega)
        rw [← hdr]
        simpa [ivs, List.map_drop] using h
      have hupl : l - 17 = (dg (n / 32768 ^ 17)).length := by rw [← hdr, List.length_drop, hl]
      have HLIE := hid hlie; have HUP := hid hup; have HUPL := hid hupl
      have HTK := hid htk; have HN17 := hid hn17; have HLL := hid hl
      have hT17 : ((dg n).take 17).length = 17 := by rw [List.length_take]; omega
      have HT17 := hid hT17
      have HD17 : Hid (Dgs ((dg n).take 17)) := hid ((dg_dgs n).take 17)
      clear hdr htk hlie hup hupl hn17 hl hlt hT17
      obtain ⟨lo, hlo⟩ : ∃ lo, lo = n % 32768 ^ 17 := ⟨_, rfl⟩
      obtain ⟨hi, hhi⟩ : ∃ hi, hi = n / 32768 ^ 17 := ⟨_, rfl⟩
      have hfold := mod_fold n
      have hflt := mod_fold_lt n HN17.out
      rw [← hlo, ← hhi] at hfold hflt
      rw [← hlo] at HTK
      rw [← hhi] at HUP HUPL
      have hlon : lo ≤ n := by rw [hlo]; exact Nat.mod_le _ _
      have hhin : hi ≤ n := by rw [hhi]; exact Nat.div_le_self _ _
      have TR : Hid (∀ W A c, Sq W W.heap.size A c (ivs ((dg n).take 17)) → Calls Try.prog 85 #[.slice A 17 c] W fun e W' => e = .returned (.slice A (dg lo).length c) ∧ Sq W' W'.heap.size A c (ivs (dg lo)) ∧ W = W') := hid fun W A c hS => by
        have h := trim6_any A ((dg n).take 17) c W.heap.size W hS HD17.out (by rw [HT17.out]; omega)
        rw [HT17.out, HTK.out] at h
        refine h.mono ?_
        rintro e W' ⟨rfl, hs, rfl⟩
        exact ⟨rfl, hs, rfl⟩
      have MU : Hid (∀ W A c, Below wr.heap.size wr W → Sq W W.heap.size A c (ivs (dg 19)) → Calls Try.prog 43 #[.slice (some ⟨b, o + 17, none⟩) (l - 17) (c1 - 17), .slice A (dg 19).length c] W (BigR W (hi * 19))) := hid fun W A c hB hS => by
        have h := Mul_any hi 19 (some ⟨b, o + 17, none⟩) A (c1 - 17) c W (HUP.out.on6 hB) hS (Nat.le_trans (HL.out hi (by omega)) (by omega)) (Nat.le_trans HL19.out (by omega))
        rw [← HUPL.out] at h
        exact h
      have AD : Hid (∀ W A c A' c', Sq W W.heap.size A c (ivs (dg lo)) → Sq W W.heap.size A' c' (ivs (dg (hi * 19))) → Calls Try.prog 42 #[.slice A (dg lo).length c, .slice A' (dg (hi * 19)).length c'] W (BigR W (lo + hi * 19))) := hid fun W A c A' c' hS hS' =>
        Add_any lo (hi * 19) A A' c c' W hS hS' (Nat.le_trans (HL.out lo (by omega)) (by omega)) (Nat.le_trans (HL.out (hi * 19) (by omega)) (by omega))
      have HF := hid hfold; have HFL := hid hflt
      clear hlo hhi hfold hflt hlon hhin
      go_wp2_with fail
      go_region_held3 (fun w' => Below wr.heap.size wr w')
        (first
          | exact hB9 | exact hB8 | exact hB7 | exact hB6 | exact hB5
          | exact (Below.refl _ _).drew
          | exact ((Below.refl _ _).alloc (Nat.le_refl _) _).drew
          | exact (Below.refl _ _).drew.alloc (Nat.le_refl _) _)
        (first
          | (refine step_append_lie (by rfl) (.tmp 6) (.tmp 8) _ (by rfl) wr.heap.size 3 (.int .i64 0) 8 Try.underlying34 infoI64 rfl (by rfl) (World.ownsRow.drew (erow6 _ _ (k := wr.heap.size) rfl (Nat.le_refl _))) ((ivs_length _).trans HT17.out) (by rfl) ((HLIE.out.alloc (Nat.le_refl _) _).drew) (ivs_one _) (by unfold maxLen; omega) (by omega) (by simp) ?_; intro v5 w5 hown5 hg5 hat5; have hB5 : Below wr.heap.size wr w5 := (((Below.refl _ _).alloc (Nat.le_refl _) _).drew).grown hg5 (by simp) (by intro q hq; simp [Value.ownBlock] at hq; omega); obtain ⟨A5, c5, rfl, hS5⟩ := own_sl hown5; have hS5 : Sq w5 w5.heap.size A5 c5 (ivs ((dg n).take 17)) := by simpa using hS5.sq)
          | (go_at_call 85; refine (TR.out _ _ _ hS5).mono ?_; rintro e w6 ⟨rfl, hS6, rfl⟩)
          | (go_at_call 15; refine (HN19.out _).mono ?_; rintro e w7 ⟨A7, c7, rfl, hS7, hb7⟩; have hB7 := hB5.trans (hb7.mono hB5.size); have hS67 := hS6.on6 hb7)
          | (go_at_call 43; refine (MU.out _ _ _ hB7 hS7).mono ?_; rintro e w8 ⟨A8, c8, rfl, hS8, hb8⟩; have hB8 := hB7.trans (hb8.mono hB7.size); have hS68 := hS67.on6 hb8)
          | (go_at_call 42; refine (AD.out _ _ _ _ _ hS68 hS8).mono ?_; rintro e w9 ⟨A9, c9, rfl, hS9, hb9⟩; have hB9 := hB8.trans (hb9.mono hB8.size)))
      have HS9 := hid hS9
      have HB9 := hid (HB.out.trans (hB9.mono HB.out.size))
      clear hown5 hg5 hat5 hB5 hS5 hS6 hS7 hb7 hB7 hS67 hS8 hb8 hB8 hS68 hS9 hb9 hB9 TR MU AD
      go_wp2
      have hg := HG.out
      have hfl := HFL.out
      go_roundg (lo + hi * 19)
      case measure => omega
      case rel => exact ⟨lo + hi * 19, A9, c9, rfl, HS9.out, rfl, by omega, by rw [HF.out, HM.out], HB9.out⟩
    · have hx : ¬ (17 : Int) < ((dg n).length : Int) := by omega
      have HN := hid hn
      clear hlt hn
      go_wp2
      go_loopg [0] n (fun g v wr => ∃ (m : Nat) (A : Option Addr) (c : Nat), v = .slice A (dg m).length c ∧ Sq wr wr.heap.size A c (ivs (dg m)) ∧ g = m ∧ m ≤ N ∧ m % pp = R ∧ Below w.heap.size w wr)
      case atStart => exact ⟨n, A1, c1, rfl, HS.out, rfl, HN.out, HM.out, HB.out⟩
      case round =>
        clear HS HM HB HG HLN HN hcap1 hcap2 hx
        obtain ⟨m, A2, c2, rfl, hS, hg, hn, hm, hb⟩ := hrel
        have HS := hid hS; have HG := hid hg; have HM := hid hm; have HB := hid hb; have HLM := hid (HL.out m hn)
        clear hS hg hm hb
        go_wp2_with fail
        refine (HP.out _).mono ?_
        rintro e w1 ⟨A3, c3, rfl, hS3, hb3⟩
        have HS3 := hid hS3; have HS2 := hid (HS.out.on6 hb3); have HB3 := hid (HB.out.trans (hb3.mono HB.out.size))
        clear hS3 hb3 HS HB
        have hls := Less_any m pp A2 A3 c2 c3 w1.heap.size w1.heap.size w1 HS2.out HS3.out (Nat.le_trans HLM.out (by omega))
        by_cases hlp : m < pp
        · rw [decide_eq_true hlp] at hls
          have HLS := hid hls
          have HV := hid ((Nat.mod_eq_of_lt hlp).symm.trans HM.out)
          clear hls hlp
          go_wp2_with fail
          refine HLS.out.mono ?_
          rintro e w2 ⟨rfl, q2, rfl⟩
          go_wp2
          go_ret
          exact ⟨A2, c2, by rw [HV.out]; rfl, by rw [← HV.out]; exact HS2.out, belowB_drewN HB3.out _⟩
        · rw [decide_eq_false hlp] at hls
          have HLS := hid hls
          have hle : pp ≤ m := by omega
          have hpp := pp_pos
          have HLE := hid hle; have HPP := hid hpp
          clear hls hlp hle hpp
          go_wp2_with fail
          refine HLS.out.mono ?_
          rintro e w2 ⟨rfl, q2, rfl⟩
          clear HLS
          go_wp2_with fail
          refine (HP.out _).mono ?_
          rintro e w4 ⟨A4, c4, rfl, hS4, hb4⟩
          have hs24 : Sq w4 w4.heap.size A2 c2 (ivs (dg m)) := Sq.on6 (w := w1.drewN q2) HS2.out hb4
          have HS4 := hid hS4; have HS24 := hid hs24; have HB4 := hid ((belowB_drewN HB3.out q2).trans (hb4.mono (by simpa using HB3.out.size)))
          clear hS4 hb4 hs24 HS2 HB3 HS3
          go_wp2_with fail
          refine (Sub_any m pp A2 A4 c2 c4 w4 HS24.out HS4.out (Nat.le_trans HLM.out (by omega)) HLE.out).mono ?_
          rintro e w5 ⟨A5, c5, rfl, hS5, hb5⟩
          have HS5 := hid hS5; have HB5 := hid (HB4.out.trans (hb5.mono HB4.out.size))
          clear hS5 hb5 HS24 HS4 HB4
          go_wp2
          have hg := HG.out
          have hle := HLE.out
          have hpp := HPP.out
          go_roundg (m - pp)
          case measure => omega
          case rel => exact ⟨m - pp, A5, c5, rfl, HS5.out, rfl, by omega, by rw [← HM.out]; exact (Nat.mod_eq_sub_mod hle).symm, HB5.out⟩
end

section
open Go.RowKit
set_option linter.unusedVariables false
set_option linter.unusedSimpArgs false

theorem pp_dig : pp < 32768 ^ 17 := by rw [pow17]; omega
theorem dg17 (n : Nat) (h : n < pp) : (dg n).length ≤ 17 := (dg_length_le n 17).2 (Nat.lt_trans h pp_dig)
theorem mul_dig {a b : Nat} (ha : a < pp) (hb : b < pp) : a * b < 32768 ^ 50 := by
  have h := Nat.mul_lt_mul'' (Nat.lt_trans ha pp_dig) (Nat.lt_trans hb pp_dig)
  exact Nat.lt_trans h (by decide +kernel)
theorem add_dig {a b : Nat} (ha : a ≤ 2 * pp) (hb : b ≤ 2 * pp) : a + b < 32768 ^ 50 := by
  have h : 4 * pp < 32768 ^ 50 := by decide +kernel
  omega

theorem Mul6_any (a b : Nat) (A A' : Option Addr) (c c' : Nat) (w : World) (hS : Sq w w.heap.size A c (ivs (dg a))) (hS' : Sq w w.heap.size A' c' (ivs (dg b))) (ha : a < pp) (hb : b < pp) :
    Calls Try.prog 47 #[.slice A (dg a).length c, .slice A' (dg b).length c'] w (BigR w (a * b % pp)) := by
  have C := hid (Mul_any a b A A' c c' w hS hS' (Nat.le_trans (dg17 a ha) (by omega)) (Nat.le_trans (dg17 b hb) (by omega)))
  have D := hid (fun A c W h => Mod_any (a * b) A c W h (mul_dig ha hb))
  clear hS hS' ha hb
  go_enter Try.func47, Try.ntmps47
  go_wp2_with fail
  refine C.out.mono ?_
  rintro e w1 ⟨A1, c1, rfl, hS1, hb1⟩
  have HS1 := hid hS1; have HB1 := hid hb1
  clear hS1 hb1 C
  go_wp2_with fail
  refine (D.out _ _ _ HS1.out).mono ?_
  rintro e w2 ⟨A2, c2, rfl, hS2, hb2⟩
  have HS2 := hid hS2; have HB2 := hid (HB1.out.trans (hb2.mono HB1.out.size))
  clear hS2 hb2
  go_wp2
  go_ret
  exact ⟨A2, c2, rfl, HS2.out, HB2.out⟩
theorem Add6_any (a b : Nat) (A A' : Option Addr) (c c' : Nat) (w : World) (hS : Sq w w.heap.size A c (ivs (dg a))) (hS' : Sq w w.heap.size A' c' (ivs (dg b))) (ha : a < pp) (hb : b < pp) :
    Calls Try.prog 49 #[.slice A (dg a).length c, .slice A' (dg b).length c'] w (BigR w ((a + b) % pp)) := by
  have C := hid (Add_any a b A A' c c' w hS hS' (Nat.le_trans (dg17 a ha) (by omega)) (Nat.le_trans (dg17 b hb) (by omega)))
  have D := hid (fun A c W h => Mod_any (a + b) A c W h (add_dig (by omega) (by omega)))
  clear hS hS' ha hb
  go_enter Try.func49, Try.ntmps49
  go_wp2_with fail
  refine C.out.mono ?_
  rintro e w1 ⟨A1, c1, rfl, hS1, hb1⟩
  have HS1 := hid hS1; have HB1 := hid hb1
  clear hS1 hb1 C
  go_wp2_with fail
  refine (D.out _ _ _ HS1.out).mono ?_
  rintro e w2 ⟨A2, c2, rfl, hS2, hb2⟩
  have HS2 := hid hS2; have HB2 := hid (HB1.out.trans (hb2.mono HB1.out.size))
  clear hS2 hb2
  go_wp2
  go_ret
  exact ⟨A2, c2, rfl, HS2.out, HB2.out⟩
theorem Sub6_any (a b : Nat) (A A' : Option Addr) (c c' : Nat) (w : World) (hS : Sq w w.heap.size A c (ivs (dg a))) (hS' : Sq w w.heap.size A' c' (ivs (dg b))) (ha : a < pp) (hb : b < pp) :
    Calls Try.prog 25 #[.slice A (dg a).length c, .slice A' (dg b).length c'] w (BigR w ((a + (pp - b)) % pp)) := by
  have HP := hid P_any
  have LA := hid (Nat.le_trans (dg17 a ha) (show 17 ≤ 1073741824 by omega))
  have LP : Hid ((dg pp).length ≤ 1073741824) := hid (Nat.le_trans ((dg_length_le pp 17).2 pp_dig) (by omega))
  have LS : Hid ((dg (a + pp)).length ≤ 1073741824) := hid (Nat.le_trans (dgl6 _ (add_dig (by omega) (by omega))) (by omega))
  have D := hid (fun A c W h => Mod_any (a + pp - b) A c W h (Nat.lt_of_le_of_lt (Nat.sub_le _ _) (add_dig (a := a) (b := pp) (by omega) (by omega))))
  have hle : b ≤ a + pp := by omega
  have HLE := hid hle
  have hres : (a + pp - b) % pp = (a + (pp - b)) % pp := by congr 1; omega
  have HR := hid hres
  have HS := hid hS; have HS' := hid hS'
  clear hS hS' ha hb hle hres
  go_enter Try.func25, Try.ntmps25
  go_wp2_with fail
  refine (HP.out _).mono ?_
  rintro e w1 ⟨A1, c1, rfl, hS1, hb1⟩
  have HS1 := hid hS1; have HB1 := hid hb1; have HSa := hid (HS.out.on6 hb1); have HSb := hid (HS'.out.on6 hb1)
  clear hS1 hb1 HS HS'
  go_wp2_with fail
  refine (Add_any a pp A A1 c c1 w1 HSa.out HS1.out LA.out LP.out).mono ?_
  rintro e w2 ⟨A2, c2, rfl, hS2, hb2⟩
  have HS2 := hid hS2; have HB2 := hid (HB1.out.trans (hb2.mono HB1.out.size)); have HSb2 := hid (HSb.out.on6 hb2)
  clear hS2 hb2 HSa HSb HS1 HB1
  go_wp2_with fail
  refine (Sub_any (a + pp) b A2 A' c2 c' w2 HS2.out HSb2.out LS.out HLE.out).mono ?_
  rintro e w3 ⟨A3, c3, rfl, hS3, hb3⟩
  have HS3 := hid hS3; have HB3 := hid (HB2.out.trans (hb3.mono HB2.out.size))
  clear hS3 hb3 HS2 HSb2 HB2
  go_wp2_with fail
  refine (D.out _ _ _ HS3.out).mono ?_
  rw [HR.out]
  rintro e w4 ⟨A4, c4, rfl, hS4, hb4⟩
  have HS4 := hid hS4; have HB4 := hid (HB3.out.trans (hb4.mono HB3.out.size))
  clear hS4 hb4
  go_wp2
  go_ret
  exact ⟨A4, c4, rfl, HS4.out, HB4.out⟩
end
end Go.Proofs.Ytealegfmmeklcaa
