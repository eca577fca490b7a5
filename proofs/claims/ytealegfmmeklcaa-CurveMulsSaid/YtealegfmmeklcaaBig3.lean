/-
  The document's numbers of any size (package ratlineref02): noughts cut off, a digit, a number's digits.
  The document's numbers of any size: compared, added, powers of 2.
  The document's numbers of any size: powers of 2, products.
-/
import Derived.Test.YtealegfmmeklcaaShaS
import Derived.Test.YtealegfmmeklcaaBigP
import Derived.Test.YtealegfmmeklcaaQuiT
namespace Go.Proofs.Ytealegfmmeklcaa
section
open Go.RowKit
set_option linter.unusedVariables false
set_option linter.unusedSimpArgs false

abbrev BigT : TypeId := 34
theorem infoI64 : (Try.prog.info? 3).map (fun i => (i.zero, i.size, i.bytes)) = some (some (.int .i64 0), 1, 8) := by kernel_rfl
/-- Digits as cells. -/
def ivs (xs : List Nat) : List Value := xs.map fun x => Value.int .i64 ((x : Nat) : Int)
@[simp] theorem ivs_length (xs : List Nat) : (ivs xs).length = xs.length := by simp [ivs]
theorem ivs_append (xs ys : List Nat) : ivs (xs ++ ys) = ivs xs ++ ivs ys := by simp [ivs]
theorem ivs_one (xs : List Nat) : ∀ u ∈ ivs xs, u.oneCell' = true := by
  intro u hu
  simp only [ivs, List.mem_map] at hu
  obtain ⟨x, _, rfl⟩ := hu
  rfl
theorem Sq.dig {w : World} {B c : Nat} {A : Option Addr} {xs : List Nat} (h : Sq w B A c (ivs xs)) {k : Nat} (hk : k < xs.length) : ∃ b o, A = some ⟨b, o, none⟩ ∧ b < B ∧ w.cell? ⟨b, o + k, none⟩ = some (.int .i64 ((xs.getD k 0 : Nat) : Int)) := by
  obtain ⟨b, o, hA, hb, hc⟩ := h.lie.at_ (k := k) (by simpa using hk)
  refine ⟨b, o, hA, hb, ?_⟩
  rw [hc, List.getD_eq_getElem?_getD, List.getElem?_eq_getElem hk]
  simp [ivs]
/-- The call owns the digits xs. -/
def OwnI (w : World) (B : Nat) (v : Value) (xs : List Nat) : Prop := w.ownsRow B 3 1 v xs.length (ivs xs)
theorem owni_snoc {w : World} {B : Nat} {v : Value} {xs : List Nat} {n y : Nat} {z : Int} (h : w.ownsRow B 3 1 v n (ivs xs ++ [.int .i64 z])) (hn : n = xs.length + 1) (hz : z = (y : Int)) : OwnI w B v (xs ++ [y]) := by
  subst hn
  subst hz
  simpa [OwnI, ivs] using h
theorem owni_nil (w : World) (B : Nat) : OwnI w B (.slice none 0 0) [] := ⟨rfl, .inl ⟨rfl, rfl⟩⟩
/-- A number that a call made: its digits lie somewhere, and all that was there stays. -/
def BigR (w : World) (N : Nat) (e : Ending) (w' : World) : Prop := ∃ A c, e = .returned (.slice A (dg N).length c) ∧ Sq w' w'.heap.size A c (ivs (dg N)) ∧ Below w.heap.size w w'

set_option maxHeartbeats 800000 in
theorem trim_any (A : Option Addr) (xs : List Nat) (c B : Nat) (w : World) (hS : Sq w B A c (ivs xs)) (hd : Dgs xs) (hl : xs.length ≤ 1099511627776) :
    Calls Try.prog 46 #[.slice A xs.length c] w fun e w' => e = .returned (.slice A (dg (val xs)).length c) ∧ Sq w B A c (ivs (dg (val xs))) ∧ w = w' := by
  have hcap := hS.cap
  rw [ivs_length] at hcap
  obtain ⟨hc1, hc2⟩ := hcap
  have HS := hid hS; have HD := hid hd
  clear hS hd
  go_enter Try.func46, Try.ntmps46
  go_wp2
  go_loopg [0] (xs.length + 1) (fun g v wr => ∃ k : Nat, v = .slice A k c ∧ k ≤ xs.length ∧ g = k + 1 ∧ val (xs.take k) = val xs ∧ wr = w)
  case atStart => exact ⟨xs.length, rfl, Nat.le_refl _, rfl, by rw [List.take_length], rfl⟩
  case round =>
    obtain ⟨k, rfl, hk, hg, hv, rfl⟩ := hrel
    have HG := hid hg; have HV := hid hv
    clear hg hv
    rcases k with _ | k
    · have hz : dg (val xs) = [] := by rw [← HV.out, List.take_zero]; exact dg_zero
      have HZ := hid hz
      clear hz
      have h0 : ¬ (0 : Int) < ((0 : Nat) : Int) := by omega
      go_wp2
      go_ret
      exact ⟨by rw [HZ.out]; rfl, by rw [HZ.out]; exact HS.out.take 0, rfl⟩
    · have hkl : k < xs.length := by omega
      obtain ⟨b, o, rfl, hb, hcell⟩ := HS.out.dig hkl
      have hlk : (xs.take (k + 1)).length = k + 1 := by rw [List.length_take]; omega
      have hgd : (xs.take (k + 1)).getD k 0 = xs.getD k 0 := by simp [List.getD_eq_getElem?_getD, List.getElem?_take]
      obtain ⟨x, hx⟩ : ∃ x, x = xs.getD k 0 := ⟨_, rfl⟩
      rw [← hx] at hcell hgd
      have h0 : (0 : Int) < ((k + 1 : Nat) : Int) := by omega
      have h1 : (((k + 1 : Nat) : Int) - 1) = (k : Int) := by omega
      have h2 : (k : Int) < ((k + 1 : Nat) : Int) := by omega
      have hk0 : (0 : Int) ≤ (k : Int) := by omega
      have hkc : (k : Int) ≤ (c : Int) := by omega
      have hkm : ((k + 1 : Nat) : Int) ≤ 9223372036854775807 := by omega
      by_cases hx0 : x = 0
      · have hv2 : val (xs.take k) = val xs := by
          rw [← HV.out, ← val_take_nought (xs.take (k + 1)) k hlk (by rw [hgd, hx0]), List.take_take, Nat.min_eq_left (by omega)]
        have hxi : ((x : Int) == 0) = true := by simp [hx0]
        have HV2 := hid hv2
        clear hlk hgd hx hx0 hv2
        go_wp2
        have hg := HG.out
        go_roundg (k + 1)
        case measure => omega
        case rel => exact ⟨k, rfl, by omega, rfl, HV2.out, rfl⟩
      · have hz : dg (val xs) = xs.take (k + 1) := by
          rw [← HV.out]
          exact dg_val _ (HD.out.take _) (fun q hq => by
            have : q = k := by omega
            subst this
            rw [hgd]; exact hx0)
        have hxi : ((x : Int) == 0) = false := by simp [hx0]
        have HZ := hid hz; have HLK := hid hlk
        clear hlk hgd hx hx0 hz
        go_wp2
        go_ret
        exact ⟨by rw [HZ.out, HLK.out]; rfl, by rw [HZ.out]; have h := HS.out.take (k + 1); simpa [ivs, List.map_take] using h, rfl⟩

theorem digit_any (A : Option Addr) (xs : List Nat) (c B i : Nat) (w : World) (hS : Sq w B A c (ivs xs)) (hi : i ≤ 1099511627776) :
    Calls Try.prog 80 #[.slice A xs.length c, .int .i64 (i : Int)] w fun e w' => e = .returned (.int .i64 ((xs.getD i 0 : Nat) : Int)) ∧ w = w' := by
  have hi0 : (0 : Int) ≤ (i : Int) := by omega
  by_cases h : i < xs.length
  · obtain ⟨b, o, rfl, hb, hcell⟩ := hS.dig h
    have hx : (i : Int) < (xs.length : Int) := by omega
    obtain ⟨x, hxe⟩ : ∃ x, x = xs.getD i 0 := ⟨_, rfl⟩
    rw [← hxe] at hcell ⊢
    clear hS hxe
    go_enter Try.func80, Try.ntmps80
    go_wp2
    go_ret
    exact ⟨rfl, rfl⟩
  · have hx : ¬ (i : Int) < (xs.length : Int) := by omega
    have h0 : xs.getD i 0 = 0 := by rw [List.getD_eq_getElem?_getD, List.getElem?_eq_none (by omega)]; rfl
    rw [h0]
    clear hS h0
    go_enter Try.func80, Try.ntmps80
    go_wp2
    go_ret
    exact ⟨rfl, rfl⟩

set_option maxHeartbeats 800000 in
theorem Num_any (n : Nat) (w : World) (hn : n < 18446744073709551616) :
    Calls Try.prog 15 #[.int .u64 (n : Int)] w (BigR w n) := by
  go_enter Try.func15, Try.ntmps15
  go_wp2
  go_loopg [0, 3] n (fun g a v wr => ∃ (m : Nat) (xs : List Nat), g = m ∧ m < 18446744073709551616 ∧ a = .int .u64 (m : Int) ∧ OwnI wr w.heap.size v xs ∧ dg n = xs ++ dg m ∧ xs.length ≤ 5 ∧ m < 32768 ^ (5 - xs.length) ∧ Below w.heap.size w wr)
  case atStart => exact ⟨n, [], rfl, hn, rfl, owni_nil _ _, rfl, by simp, by simp; omega, Below.refl _ _⟩
  case round =>
    obtain ⟨m, xs, hg, hm, rfl, hown, hd, hl, hml, hb⟩ := hrel
    have HO := hid hown; have HD := hid hd; have HB := hid hb; have HG := hid hg
    obtain ⟨A, c, rfl, hS⟩ := own_sl hown
    have HS := hid hS.sq
    clear hown hd hb hg hS
    by_cases h0 : m = 0
    · subst h0
      have hd0 : dg n = xs := by rw [HD.out, dg_zero, List.append_nil]
      have HD0 := hid hd0
      clear hd0
      go_wp2
      go_ret
      exact ⟨A, c, by rw [HD0.out]; rfl, by rw [HD0.out]; exact HS.out, HB.out⟩
    · have hpos : (0 : Int) < (m : Int) := by omega
      have hl5 : xs.length < 5 := by
        rcases Nat.lt_or_ge xs.length 5 with h | h
        · exact h
        · rw [show 5 - xs.length = 0 by omega, Nat.pow_zero] at hml; omega
      have hsz : w.heap.size ≤ wr.heap.size := HB.out.size
      have hm32 : m / 32768 < 32768 ^ (5 - (xs.length + 1)) := by
        rw [show 5 - xs.length = (5 - (xs.length + 1)) + 1 by omega, Nat.pow_succ] at hml
        exact (Nat.div_lt_iff_lt_mul (by omega)).2 hml
      have HM := hid hm32
      clear hml hm32
      go_wp2_with (at_builtin; refine wpList_append_lie rfl (.tmp 6) (.tmp 10) 34 rfl w.heap.size 3 (.int .i64 0) 8 Try.underlying34 infoI64 rfl rfl (World.ownsRow.alloc HO.out _) rfl rfl (Lie.new1 _ _ _) ?d0 ?d1 ?d2 ?d3 ?_)
      case d0 => intro u hu; simp at hu; subst hu; rfl
      case d1 => rw [List.length_singleton]; unfold maxLen; omega
      case d2 => rw [List.length_singleton]; omega
      case d3 => simp; omega
      intro v2 w2 hown2 hg2 _
      have hO2 : OwnI w2 w.heap.size v2 (xs ++ [m % 32768]) := owni_snoc hown2 (by simp) (by omega)
      have hB2 : Below w.heap.size w w2 := (HB.out.alloc hsz _).grown hg2 (by simp; omega) (fun q h => own_lt (World.ownsRow.alloc HO.out (.cells #[.int .i64 ((m : Int) % 32768)] 3)) q h)
      have hdn : dg n = (xs ++ [m % 32768]) ++ dg (m / 32768) := by rw [HD.out, dg_pos m h0]; simp
      have HO2 := hid hO2; have HB2 := hid hB2; have HDN := hid hdn
      clear hown2 hg2 hO2 hB2 hdn
      go_wp2
      have hg := HG.out
      go_roundg (m / 32768)
      case measure => omega
      case rel => exact ⟨m / 32768, _, rfl, by omega, by go_num, HO2.out, HDN.out, by simp; omega, by rw [List.length_append]; exact HM.out, HB2.out⟩
end

section
open Go.RowKit
set_option linter.unusedVariables false
set_option linter.unusedSimpArgs false

theorem dg_getD' (n i : Nat) : (dg n).getD i 0 = n / 32768 ^ i % 32768 := dg_getD n i

set_option maxRecDepth 100000 in
set_option maxHeartbeats 800000 in
theorem Less_any (a b : Nat) (A A' : Option Addr) (c c' B B' : Nat) (w : World) (hS : Sq w B A c (ivs (dg a))) (hS' : Sq w B' A' c' (ivs (dg b))) (hl : (dg a).length ≤ 1099511627776) :
    Calls Try.prog 12 #[.slice A (dg a).length c, .slice A' (dg b).length c'] w fun e w' => e = .returned (.bool (decide (a < b))) ∧ ∃ n, w' = w.drewN n := by
  by_cases hlen : (dg a).length = (dg b).length
  · have hne : (((dg a).length : Int) != ((dg b).length : Int)) = false := by simp [hlen]
    obtain ⟨la, hla⟩ : ∃ l, l = (dg a).length := ⟨_, rfl⟩
    have h0 : a / 32768 ^ la = b / 32768 ^ la := by rw [hla, dg_short a _ (Nat.le_refl _), dg_short b _ (by omega)]
    have hlb : (dg b).length = la := by omega
    have hla2 : (la : Int) ≤ 1099511627776 := by omega
    have HS := hid hS; have HS' := hid hS'; have H0 := hid h0; have HLA := hid hla; have HLB := hid hlb
    rw [← hlen, ← hla] at hne
    rw [hlb, ← hla]
    clear hS hS' h0 hlen hla hlb hl
    go_enter Try.func12, Try.ntmps12
    go_wp2
    go_loopg [5] la (fun g i wr => ∃ k : Nat, k = g ∧ k ≤ la ∧ i = .int .i64 ((k : Int) - 1) ∧ a / 32768 ^ k = b / 32768 ^ k ∧ ∃ n, wr = w.drewN n)
    case atStart => exact ⟨la, rfl, Nat.le_refl _, rfl, H0.out, 0, rfl⟩
    case round =>
      obtain ⟨k, hk, hkl, rfl, hd, hw⟩ := hrel
      have hcell : ∀ p, wr.cell? p = w.cell? p := by obtain ⟨n, rfl⟩ := hw; exact fun p => rfl
      have HC := hid hcell; have HD := hid hd; have HW := hid hw; have HK := hid hk
      clear hcell hd hw hk
      rcases k with _ | k
      · have hab : a = b := by have := HD.out; simpa using this
        have HF : Hid (decide (a < b) = false) := hid (by rw [hab]; simp)
        clear hab
        go_wp2
        go_ret
        exact ⟨by rw [HF.out]; rfl, HW.out⟩
      · have e1 : (((k + 1 : Nat) : Int) - 1) = (k : Int) := by omega
        rw [e1]
        clear e1
        have hk0 : (0 : Int) ≤ (k : Int) := by omega
        have hkl2 : (k : Int) < (la : Int) := by omega
        have hkl3 : (k : Int) ≤ 1099511627776 := by omega
        obtain ⟨b1, o1, rfl, _, hc1⟩ := HS.out.dig (k := k) (by rw [← HLA.out]; omega)
        obtain ⟨b2, o2, rfl, _, hc2⟩ := HS'.out.dig (k := k) (by rw [HLB.out]; omega)
        rw [← HC.out] at hc1 hc2
        rw [dg_getD] at hc1 hc2
        have hle := less_digit a b k HD.out
        have hsm := less_same a b k HD.out
        obtain ⟨x, hx⟩ : ∃ x, x = a / 32768 ^ k % 32768 := ⟨_, rfl⟩
        obtain ⟨y, hy⟩ : ∃ y, y = b / 32768 ^ k % 32768 := ⟨_, rfl⟩
        rw [← hx] at hc1
        rw [← hy] at hc2
        rw [← hx, ← hy] at hle hsm
        have HLE := hid hle; have HSM := hid hsm
        clear hx hy hle hsm
        by_cases he : x = y
        · have hne2 : ((x : Int) != (y : Int)) = false := by simp [he]
          have HN := hid (HSM.out he)
          clear he HLE HSM
          go_wp2
          go_quiet (fail)
          go_wp2
          have hk := HK.out
          go_roundg (gk - 1)
          case measure => omega
          case rel => exact ⟨k, by omega, by omega, rfl, HN.out, by obtain ⟨n, hn⟩ := HW.out; exact ⟨_, by rw [hn, World.drewN_drewN]⟩⟩
        · have hne2 : ((x : Int) != (y : Int)) = true := by rw [bne_iff_ne]; omega
          have HN := hid (HLE.out he)
          clear he HLE HSM
          by_cases hxy : x < y
          · have hi : (x : Int) < (y : Int) := by omega
            have hdx : decide (x < y) = true := decide_eq_true hxy
            have HDX := hid hdx
            clear hxy hdx
            go_wp2
            go_quiet (fail)
            go_wp2
            go_quiet (fail)
            go_wp2
            try rw [HDX.out]
            go_ret
            exact ⟨by rw [HN.out, HDX.out]; rfl, by obtain ⟨n, hn⟩ := HW.out; exact ⟨_, by rw [hn, World.drewN_drewN, World.drewN_drewN]⟩⟩
          · have hi : ¬ (x : Int) < (y : Int) := by omega
            have hdx : decide (x < y) = false := decide_eq_false hxy
            have HDX := hid hdx
            clear hxy hdx
            go_wp2
            go_quiet (fail)
            go_wp2
            go_quiet (fail)
            go_wp2
            try rw [HDX.out]
            go_ret
            exact ⟨by rw [HN.out, HDX.out]; rfl, by obtain ⟨n, hn⟩ := HW.out; exact ⟨_, by rw [hn, World.drewN_drewN, World.drewN_drewN]⟩⟩
  · have hne : (((dg a).length : Int) != ((dg b).length : Int)) = true := by rw [bne_iff_ne]; omega
    have hlt : decide (a < b) = decide ((dg a).length < (dg b).length) := by
      rw [decide_eq_decide]
      constructor
      · intro h; have := dg_mono a b (Nat.le_of_lt h); omega
      · exact less_short a b
    have HLT := hid hlt
    clear hS hS' hlen hlt
    by_cases hx : (dg a).length < (dg b).length
    · have hi : ((dg a).length : Int) < ((dg b).length : Int) := by omega
      have hdx : decide ((dg a).length < (dg b).length) = true := decide_eq_true hx
      have HDX := hid hdx
      clear hx hdx
      go_enter Try.func12, Try.ntmps12
      go_wp2
      try rw [HDX.out]
      go_ret
      exact ⟨by rw [HLT.out, HDX.out]; rfl, 0, rfl⟩
    · have hi : ¬ ((dg a).length : Int) < ((dg b).length : Int) := by omega
      have hdx : decide ((dg a).length < (dg b).length) = false := decide_eq_false hx
      have HDX := hid hdx
      clear hx hdx
      go_enter Try.func12, Try.ntmps12
      go_wp2
      try rw [HDX.out]
      go_ret
      exact ⟨by rw [HLT.out, HDX.out]; rfl, 0, rfl⟩

set_option maxRecDepth 100000 in
set_option maxHeartbeats 800000 in
theorem Add_any (a b : Nat) (A A' : Option Addr) (c c' : Nat) (w : World) (hS : Sq w w.heap.size A c (ivs (dg a))) (hS' : Sq w w.heap.size A' c' (ivs (dg b))) (hl : (dg a).length ≤ 1073741824) (hl' : (dg b).length ≤ 1073741824) :
    Calls Try.prog 42 #[.slice A (dg a).length c, .slice A' (dg b).length c'] w (BigR w (a + b)) := by
  have HS := hid hS; have HS' := hid hS'
  obtain ⟨M, hM⟩ : ∃ M, M = max (dg a).length (dg b).length := ⟨_, rfl⟩
  have hM1 : (dg a).length ≤ M := by omega
  have hM2 : (dg b).length ≤ M := by omega
  have hM3 : M ≤ 1073741824 := by omega
  have hM4 : ∀ k, M < k ∨ k < (dg a).length ∨ k < (dg b).length ∨ k = M := fun k => by omega
  have HM4 := hid hM4
  clear hS hS' hM hM4
  go_enter Try.func42, Try.ntmps42
  go_wp2
  go_loopg [5, 6, 7] (2 * (M + 1)) (fun g v cy i wr => ∃ (k q : Nat) (xs : List Nat), g = 2 * (M + 1 - k) + q ∧ i = .int .i64 (k : Int) ∧ cy = .int .i64 (q : Int) ∧ OwnI wr w.heap.size v xs ∧ xs.length = k ∧ Dgs xs ∧ val xs + 32768 ^ k * q = a % 32768 ^ k + b % 32768 ^ k ∧ q ≤ 1 ∧ k ≤ M + 1 ∧ (M < k → q = 0) ∧ Below w.heap.size w wr)
  case atStart => exact ⟨0, 0, [], rfl, rfl, rfl, owni_nil _ _, rfl, (by intro x hx; cases hx), by simp [val, Nat.mod_one], by omega, by omega, fun _ => rfl, Below.refl _ _⟩
  case round =>
    obtain ⟨k, q, xs, hg, rfl, rfl, hown, hxl, hD, hv, hq, hk, hMk, hb⟩ := hrel
    have HO := hid hown; have HX := hid hxl; have HDG := hid hD; have HV := hid hv; have HMK := hid hMk; have HB := hid hb; have HG := hid hg
    obtain ⟨A5, c5, rfl, hS5⟩ := own_sl hown
    have hsz : w.heap.size ≤ wr.heap.size := HB.out.size
    rw [hxl]
    have hO2 : wr.ownsRow w.heap.size 3 1 (.slice A5 k c5) k (ivs xs) := by
      have h := hown; unfold OwnI at h; rwa [hxl] at h
    have HO2 := hid hO2; have HS5 := hid hS5.sq
    clear hown hxl hD hv hMk hb hg hS5 hO2
    by_cases hgo : k < (dg a).length ∨ k < (dg b).length ∨ 0 < q
    · have hkM : k ≤ M := by have := HMK.out; omega
      obtain ⟨x, hx⟩ : ∃ x, x = a / 32768 ^ k % 32768 := ⟨_, rfl⟩
      obtain ⟨y, hy⟩ : ∃ y, y = b / 32768 ^ k % 32768 := ⟨_, rfl⟩
      have hda := fun W => digit_any A (dg a) c w.heap.size k W
      have HDA : Hid (∀ W, Below w.heap.size w W → Calls Try.prog 80 #[.slice A (dg a).length c, .int .i64 (k : Int)] W fun e w' => e = .returned (.int .i64 (x : Int)) ∧ W = w') := hid fun W hW => by
        have h := digit_any A (dg a) c w.heap.size k W (HS.out.below hW) (by omega)
        rw [dg_getD, ← hx] at h; exact h
      have HDB : Hid (∀ W, Below w.heap.size w W → Calls Try.prog 80 #[.slice A' (dg b).length c', .int .i64 (k : Int)] W fun e w' => e = .returned (.int .i64 (y : Int)) ∧ W = w') := hid fun W hW => by
        have h := digit_any A' (dg b) c' w.heap.size k W (HS'.out.below hW) (by omega)
        rw [dg_getD, ← hy] at h; exact h
      have hrd := add_round a b k (val xs) q HV.out hq
      rw [← hx, ← hy] at hrd
      have hx1 : x < 32768 := by rw [hx]; exact Nat.mod_lt _ (by omega)
      have hy1 : y < 32768 := by rw [hy]; exact Nat.mod_lt _ (by omega)
      have hnew : M < k + 1 → (x + y + q) / 32768 = 0 := by
        intro h
        have hke : k = M := by omega
        have hxz : x = 0 := by rw [hx, dg_short a k (by omega)]
        have hyz : y = 0 := by rw [hy, dg_short b k (by omega)]
        rw [hxz, hyz]; omega
      have HRD := hid hrd; have HNW := hid hnew
      clear hx hy hda hrd hnew
      have hk0 : (0 : Int) ≤ (k : Int) := by omega
      have hq0 : (0 : Int) ≤ (q : Int) := by omega
      have hs : (0 : Int) ≤ (x : Int) + (y : Int) + (q : Int) := by omega
      have hs2 : (x : Int) + (y : Int) + (q : Int) ≤ 65535 := by omega
      have hs3 : ((x : Int) + (y : Int) + (q : Int)) / 32768 = (((x + y + q) / 32768 : Nat) : Int) := by omega
      by_cases e1 : k < (dg a).length
      · have e1i : (k : Int) < ((dg a).length : Int) := by omega
        clear hgo
        go_wp2_with fail
        refine (HDA.out _ HB.out).mono ?_
        rintro e w' ⟨rfl, rfl⟩
        go_wp2_with fail
        refine (HDB.out _ HB.out).mono ?_
        rintro e w' ⟨rfl, rfl⟩
        go_wp2_with (at_builtin; refine wpList_append_lie rfl (.tmp 34) (.tmp 37) 34 rfl w.heap.size 3 (.int .i64 0) 8 Try.underlying34 infoI64 rfl rfl (World.ownsRow.alloc HO2.out _) rfl rfl (Lie.new1 _ _ _) ?a1 ?b1 ?c1 ?e1 ?_)
        case a1 => intro u hu; simp at hu; subst hu; rfl
        case b1 => rw [List.length_singleton]; unfold maxLen; omega
        case c1 => rw [List.length_singleton]; omega
        case e1 => simp; omega
        intro v2 w2 hown2 hg2 _
        have hO3 : OwnI w2 w.heap.size v2 (xs ++ [(x + y + q) % 32768]) := owni_snoc hown2 (by rw [HX.out]) (by omega)
        have hB2 : Below w.heap.size w w2 := (HB.out.alloc hsz _).grown hg2 (by simp; omega) (fun q h => own_lt (World.ownsRow.alloc HO2.out (.cells #[.int .i64 (((x : Int) + (y : Int) + (q : Int)) % 32768)] 3)) q h)
        have HO3 := hid hO3; have HB2 := hid hB2
        clear hown2 hg2 hO3 hB2
        go_wp2
        have hg := HG.out
        go_roundg (2 * (M + 1 - (k + 1)) + (x + y + q) / 32768)
        case measure => have := HRD.out.2; omega
        case rel => exact ⟨k + 1, (x + y + q) / 32768, _, rfl, by go_num, by go_num, HO3.out, by rw [List.length_append, HX.out]; rfl, HDG.out.snoc (Nat.mod_lt _ (by omega)), by rw [val_snoc, HX.out]; exact HRD.out.1, HRD.out.2, by omega, HNW.out, HB2.out⟩
      · by_cases e2 : k < (dg b).length
        · have e1i : ¬ (k : Int) < ((dg a).length : Int) := by omega
          have e2i : (k : Int) < ((dg b).length : Int) := by omega
          have e1d : decide (k < (dg a).length) = false := decide_eq_false e1
          have e2d : decide (k < (dg b).length) = true := decide_eq_true e2
          clear hgo
          go_wp2_with fail
          refine (HDA.out _ HB.out).mono ?_
          rintro e w' ⟨rfl, rfl⟩
          go_wp2_with fail
          refine (HDB.out _ HB.out).mono ?_
          rintro e w' ⟨rfl, rfl⟩
          go_wp2_with (at_builtin; refine wpList_append_lie rfl (.tmp 34) (.tmp 37) 34 rfl w.heap.size 3 (.int .i64 0) 8 Try.underlying34 infoI64 rfl rfl (World.ownsRow.alloc HO2.out _) rfl rfl (Lie.new1 _ _ _) ?a2 ?b2 ?c2 ?e2 ?_)
          case a2 => intro u hu; simp at hu; subst hu; rfl
          case b2 => rw [List.length_singleton]; unfold maxLen; omega
          case c2 => rw [List.length_singleton]; omega
          case e2 => simp; omega
          intro v2 w2 hown2 hg2 _
          have hO3 : OwnI w2 w.heap.size v2 (xs ++ [(x + y + q) % 32768]) := owni_snoc hown2 (by rw [HX.out]) (by omega)
          have hB2 : Below w.heap.size w w2 := (HB.out.alloc hsz _).grown hg2 (by simp; omega) (fun q h => own_lt (World.ownsRow.alloc HO2.out (.cells #[.int .i64 (((x : Int) + (y : Int) + (q : Int)) % 32768)] 3)) q h)
          have HO3 := hid hO3; have HB2 := hid hB2
          clear hown2 hg2 hO3 hB2
          go_wp2
          have hg := HG.out
          go_roundg (2 * (M + 1 - (k + 1)) + (x + y + q) / 32768)
          case measure => have := HRD.out.2; omega
          case rel => exact ⟨k + 1, (x + y + q) / 32768, _, rfl, by go_num, by go_num, HO3.out, by rw [List.length_append, HX.out]; rfl, HDG.out.snoc (Nat.mod_lt _ (by omega)), by rw [val_snoc, HX.out]; exact HRD.out.1, HRD.out.2, by omega, HNW.out, HB2.out⟩
        · have e1i : ¬ (k : Int) < ((dg a).length : Int) := by omega
          have e2i : ¬ (k : Int) < ((dg b).length : Int) := by omega
          have e1d : decide (k < (dg a).length) = false := decide_eq_false e1
          have e2d : decide (k < (dg b).length) = false := decide_eq_false e2
          have e3i : (0 : Int) < (q : Int) := by omega
          clear hgo
          go_wp2_with fail
          refine (HDA.out _ HB.out).mono ?_
          rintro e w' ⟨rfl, rfl⟩
          go_wp2_with fail
          refine (HDB.out _ HB.out).mono ?_
          rintro e w' ⟨rfl, rfl⟩
          go_wp2_with (at_builtin; refine wpList_append_lie rfl (.tmp 34) (.tmp 37) 34 rfl w.heap.size 3 (.int .i64 0) 8 Try.underlying34 infoI64 rfl rfl (World.ownsRow.alloc HO2.out _) rfl rfl (Lie.new1 _ _ _) ?a3 ?b3 ?c3 ?e3 ?_)
          case a3 => intro u hu; simp at hu; subst hu; rfl
          case b3 => rw [List.length_singleton]; unfold maxLen; omega
          case c3 => rw [List.length_singleton]; omega
          case e3 => simp; omega
          intro v2 w2 hown2 hg2 _
          have hO3 : OwnI w2 w.heap.size v2 (xs ++ [(x + y + q) % 32768]) := owni_snoc hown2 (by rw [HX.out]) (by omega)
          have hB2 : Below w.heap.size w w2 := (HB.out.alloc hsz _).grown hg2 (by simp; omega) (fun q h => own_lt (World.ownsRow.alloc HO2.out (.cells #[.int .i64 (((x : Int) + (y : Int) + (q : Int)) % 32768)] 3)) q h)
          have HO3 := hid hO3; have HB2 := hid hB2
          clear hown2 hg2 hO3 hB2
          go_wp2
          have hg := HG.out
          go_roundg (2 * (M + 1 - (k + 1)) + (x + y + q) / 32768)
          case measure => have := HRD.out.2; omega
          case rel => exact ⟨k + 1, (x + y + q) / 32768, _, rfl, by go_num, by go_num, HO3.out, by rw [List.length_append, HX.out]; rfl, HDG.out.snoc (Nat.mod_lt _ (by omega)), by rw [val_snoc, HX.out]; exact HRD.out.1, HRD.out.2, by omega, HNW.out, HB2.out⟩
    · have e1 : ¬ k < (dg a).length := fun h => hgo (.inl h)
      have e2 : ¬ k < (dg b).length := fun h => hgo (.inr (.inl h))
      have hq0 : q = 0 := by
        rcases Nat.eq_zero_or_pos q with h | h
        · exact h
        · exact absurd (.inr (.inr h)) hgo
      subst hq0
      have e1i : ¬ (k : Int) < ((dg a).length : Int) := by omega
      have e2i : ¬ (k : Int) < ((dg b).length : Int) := by omega
      have e1d : decide (k < (dg a).length) = false := decide_eq_false e1
      have e2d : decide (k < (dg b).length) = false := decide_eq_false e2
      have e3i : ¬ (0 : Int) < ((0 : Nat) : Int) := by omega
      have hend := add_end a b k (val xs) HV.out (by omega) (by omega)
      have HT := hid (trim_any A5 xs c5 wr.heap.size wr HS5.out HDG.out (by rw [HX.out]; omega))
      rw [HX.out, hend] at HT
      clear hgo hend
      go_wp2_with fail
      refine HT.out.mono ?_
      rintro e w' ⟨rfl, hS6, rfl⟩
      have HS6 := hid hS6
      clear hS6
      go_wp2
      go_ret
      exact ⟨A5, c5, rfl, HS6.out, HB.out⟩
end

section
open Go.RowKit
set_option linter.unusedVariables false
set_option linter.unusedSimpArgs false

theorem belowB_drewN {B : Nat} {a w : World} (h : Below B a w) (n : Nat) : Below B a (w.drewN n) := ⟨h.os, h.tape, h.output, h.size, h.block⟩
/-- A row made whole. -/
theorem own_row {w : World} {base g n : Nat} {e : TypeId} {xs : List Value} (h : w.ownsRow base e 1 (.slice (some ⟨g, 0, none⟩) n n) n xs) : w.heap[g]? = some (.cells xs.toArray e (0, 0)) ∧ base ≤ g := by
  obtain ⟨hl, h⟩ := h
  rcases h with ⟨h1, _⟩ | ⟨g', cap, cur, hv, hb, hg, h1, h2, h3, h4⟩
  · simp at h1
  · simp only [Value.slice.injEq, Option.some.injEq, Addr.mk.injEq] at hv
    obtain ⟨⟨rfl, _⟩, _, rfl⟩ := hv
    refine ⟨?_, hb⟩
    have hc : cur = xs.toArray := by
      rw [← h4, List.take_of_length_le (by rw [Array.length_toList, h3]; exact Nat.le_refl _), Array.toArray_toList]
    rw [hg, hc]
theorem ivs_zeros (n : Nat) : ivs (List.replicate n 0) = List.replicate n (Value.int .i64 0) := by simp [ivs]
theorem ivs_set (L : List Nat) (p y : Nat) : (ivs L).toArray.setIfInBounds p (Value.int .i64 ((y : Nat) : Int)) = (ivs (L.set p y)).toArray := by
  simp [ivs, List.map_set]
theorem ivs_cell {w : World} {g : Nat} {t : TypeId} {L : List Nat} (h : w.heap[g]? = some (.cells (ivs L).toArray t (0, 0))) (k : Nat) (hk : k < L.length) : w.cell? ⟨g, k, none⟩ = some (.int .i64 ((L.getD k 0 : Nat) : Int)) :=
  cell_of h k _ (by rw [List.getElem?_toArray, ivs, List.getElem?_map, List.getElem?_eq_getElem hk, List.getD_eq_getElem?_getD, List.getElem?_eq_getElem hk]; rfl)
theorem ivs_sq {w : World} {g c : Nat} {t : TypeId} {L : List Nat} (h : w.heap[g]? = some (.cells (ivs L).toArray t (0, 0))) (hc : L.length ≤ c) (hc2 : c ≤ 9223372036854775807) : Sq w w.heap.size (some ⟨g, 0, none⟩) c (ivs L) :=
  .inr ⟨g, 0, rfl, block_lt h, by simpa using hc, hc2, fun j u hu => by rw [Nat.zero_add]; exact cell_of h j u (by rw [List.getElem?_toArray]; exact hu)⟩
theorem val_zeros (n : Nat) : val (List.replicate n 0) = 0 := by
  induction n with
  | zero => rfl
  | succ n ih => rw [List.replicate_succ, val, ih]
theorem dg_pow (n : Nat) : dg (2 ^ n) = List.replicate (n / 15) 0 ++ [2 ^ (n % 15)] := by
  have hv : val (List.replicate (n / 15) 0 ++ [2 ^ (n % 15)]) = 2 ^ n := by
    rw [val_snoc, val_zeros, Nat.zero_add, List.length_replicate, show (32768 : Nat) = 2 ^ 15 by decide, ← Nat.pow_mul, ← Nat.pow_add, Nat.div_add_mod]
  rw [← hv]
  have h32 : 2 ^ (n % 15) < 32768 := by
    have := Nat.pow_lt_pow_right (a := 2) (by omega) (show n % 15 < 15 by omega)
    exact this
  refine dg_val _ ?_ (fun k hk => ?_)
  · intro x hx
    rcases List.mem_append.1 hx with hx | hx
    · rw [(List.mem_replicate.1 hx).2]; omega
    · simp at hx; omega
  · simp at hk
    subst hk
    have := Nat.two_pow_pos (n % 15)
    simp [List.getD_eq_getElem?_getD]
theorem val_set (L : List Nat) (p y : Nat) (hp : p < L.length) : val (L.set p y) + 32768 ^ p * L.getD p 0 = val L + 32768 ^ p * y := by
  induction L generalizing p with
  | nil => simp at hp
  | cons x l ih =>
    rcases p with _ | p
    · simp [val]; omega
    · have h := ih p (by simpa using hp)
      rw [List.set_cons_succ, val, val, List.getD_cons_succ, Nat.pow_succ]
      have e1 : 32768 ^ p * 32768 * l.getD p 0 = 32768 * (32768 ^ p * l.getD p 0) := by rw [Nat.mul_comm (32768 ^ p) 32768, Nat.mul_assoc]
      have e2 : 32768 ^ p * 32768 * y = 32768 * (32768 ^ p * y) := by rw [Nat.mul_comm (32768 ^ p) 32768, Nat.mul_assoc]
      rw [e1, e2]
      omega
theorem Dgs.set {L : List Nat} (h : Dgs L) (p y : Nat) (hy : y < 32768) : Dgs (L.set p y) := fun x hx => by
  rcases List.mem_or_eq_of_mem_set hx with h1 | h1
  · exact h x h1
  · omega
theorem Dgs.getD {L : List Nat} (h : Dgs L) (p : Nat) : L.getD p 0 < 32768 := by
  by_cases hp : p < L.length
  · rw [List.getD_eq_getElem?_getD, List.getElem?_eq_getElem hp]; exact h _ (List.getElem_mem hp)
  · rw [List.getD_eq_getElem?_getD, List.getElem?_eq_none (by omega)]; decide
/-- One step of a product's row. -/
theorem mul_inner (P v v' l m cy S : Nat) (h : v + P * cy = S) (hs : v' + P * l = v + P * ((l + m + cy) % 32768)) : v' + P * 32768 * ((l + m + cy) / 32768) = S + P * m := by
  have e := Nat.div_add_mod (l + m + cy) 32768
  have e2 : P * (l + m + cy) = P * 32768 * ((l + m + cy) / 32768) + P * ((l + m + cy) % 32768) := by
    conv => lhs; rw [← e]
    rw [Nat.mul_add, Nat.mul_assoc]
  have e3 : P * (l + m + cy) = P * l + P * m + P * cy := by rw [Nat.mul_add, Nat.mul_add]
  omega
theorem mul_bound (l x y cy : Nat) (hl : l < 32768) (hx : x < 32768) (hy : y < 32768) (hc : cy < 32768) : l + x * y + cy < 1073741824 ∧ (l + x * y + cy) / 32768 < 32768 ∧ x * y ≤ 1073676289 := by
  have h : x * y ≤ 32767 * 32767 := Nat.mul_le_mul (by omega) (by omega)
  refine ⟨by omega, ?_, by omega⟩
  rw [Nat.div_lt_iff_lt_mul (by omega)]
  omega
theorem mul_next (a b i k x y : Nat) (hx : x = a / 32768 ^ i % 32768) (hy : y = b / 32768 ^ k % 32768) : (a % 32768 ^ i) * b + 32768 ^ i * x * (b % 32768 ^ k) + 32768 ^ (i + k) * (x * y) = (a % 32768 ^ i) * b + 32768 ^ i * x * (b % 32768 ^ (k + 1)) := by
  rw [mod_next b k, ← hy, Nat.mul_add, Nat.pow_add]
  have e : 32768 ^ i * x * (32768 ^ k * y) = 32768 ^ i * 32768 ^ k * (x * y) := by
    rw [Nat.mul_assoc, Nat.mul_assoc, Nat.mul_left_comm x]
  omega
theorem mul_row (a b i x : Nat) (hx : x = a / 32768 ^ i % 32768) : (a % 32768 ^ i) * b + 32768 ^ i * x * b = (a % 32768 ^ (i + 1)) * b := by
  rw [mod_next a i, ← hx, Nat.add_mul]

set_option maxRecDepth 100000 in
set_option maxHeartbeats 800000 in
theorem Pow_any (n : Nat) (w : World) (hn : n ≤ 1048576) :
    Calls Try.prog 45 #[.int .i64 (n : Int)] w (BigR w (2 ^ n)) := by
  obtain ⟨i0, hi, hz0, hz1, hz2⟩ := info_parts infoI64
  obtain ⟨q, hq⟩ : ∃ q, q = n / 15 := ⟨_, rfl⟩
  obtain ⟨r, hr⟩ : ∃ r, r = n % 15 := ⟨_, rfl⟩
  have hqi : (n : Int) / 15 = (q : Int) := by omega
  have hri : (n : Int) % 15 = (r : Int) := by omega
  have hn0 : (0 : Int) ≤ (n : Int) := by omega
  have hqb : q ≤ 1048576 := by omega
  have hrb : r < 15 := by omega
  have hdg : dg (2 ^ n) = List.replicate q 0 ++ [2 ^ r] := by rw [dg_pow, hq, hr]
  have hlen : (dg (2 ^ n)).length = q + 1 := by rw [hdg]; simp
  have HDG := hid hdg; have HLEN := hid hlen
  clear hq hr hdg hlen
  go_enter Try.func45, Try.ntmps45
  go_wp2_with (at_make; refine wpList_make_full _ rfl _ _ 34 rfl w.heap.size 3 i0 (.int .i64 0) 1 Try.underlying34 hi hz0 hz1 _ _ _ _ (q + 1) rfl rfl ?c0 ?c1 ?c2 ?c3 ?c4 ?_)
  case c0 => omega
  case c1 => omega
  case c2 => rw [hz2]; omega
  case c3 => unfold maxLen; omega
  case c4 => exact Nat.le_refl _
  intro w1 hown hg
  obtain ⟨hrow, _⟩ := own_row hown
  have hb1 : Below w.heap.size w w1 := below_of_grown hg (Nat.le_refl _) (fun _ h => by cases h)
  have hcs : (madeCells #[Value.int .i64 0] (q + 1)).toList = ivs (List.replicate q 0 ++ [0]) := by
    rw [show (List.replicate q 0 ++ [0] : List Nat) = List.replicate (q + 1) 0 by rw [List.replicate_succ'], ivs_zeros]
    exact toList_madeCells_one _ _
  rw [hcs] at hrow
  have hset1 : (List.replicate q 0 ++ [0] : List Nat).set q 1 = List.replicate q 0 ++ [1] := by
    rw [List.set_append_right _ _ (by simp)]; simp
  have hv1 : w1.cell? ⟨w.heap.size, q, none⟩ = some (.int .i64 (((List.replicate q 0 ++ [0] : List Nat).getD q 0 : Nat) : Int)) := ivs_cell hrow q (by simp)
  have hf1 : w1.frozen? ⟨w.heap.size, q, none⟩ = false := frozen_of_row _ _ _ _ _ hrow
  have hrow2 := block_set hrow q (.int .i64 ((1 : Nat) : Int))
  rw [ivs_set, hset1, show ((1 : Nat) : Int) = 1 from rfl] at hrow2
  have hqq : (q : Int) < (q : Int) + 1 := by omega
  have hq0 : (0 : Int) ≤ (q : Int) := by omega
  have hqq2 : (q : Int) < ((q + 1 : Nat) : Int) := by omega
  have HR2 := hid hrow2; have HB2 := hid (hb1.setCell (p := ⟨w.heap.size, q, none⟩) (Nat.le_refl _) (.int .i64 1))
  clear hown hg hrow hb1 hcs hset1 hrow2 hi hz0 hz1 hz2
  go_wp2
  clear hv1 hf1
  go_loopg [4] r (fun g i wr => ∃ k : Nat, k + g = r ∧ i = .int .i64 (k : Int) ∧ wr.heap[w.heap.size]? = some (.cells (ivs (List.replicate q 0 ++ [2 ^ k])).toArray 3 (0, 0)) ∧ Below w.heap.size w wr)
  case atStart => exact ⟨0, by omega, rfl, HR2.out, HB2.out⟩
  case round =>
    clear HR2 HB2
    obtain ⟨k, hk, rfl, hrow, hb⟩ := hrel
    have HK := hid hk; have HB := hid hb; have HROW := hid hrow
    clear hk hb
    by_cases hlt : k < r
    · have hki : (k : Int) < (r : Int) := by omega
      have hk0 : (0 : Int) ≤ (k : Int) := by omega
      have hk15 : (k : Int) ≤ 15 := by omega
      have hgd : (List.replicate q 0 ++ [2 ^ k] : List Nat).getD q 0 = 2 ^ k := by simp [List.getD_eq_getElem?_getD]
      have hcell := ivs_cell hrow q (by simp)
      rw [hgd] at hcell
      have hfz : wr.frozen? ⟨w.heap.size, q, none⟩ = false := frozen_of_row _ _ _ _ _ hrow
      have h2k : 2 ^ k < 32768 := Nat.pow_lt_pow_right (a := 2) (by omega) (show k < 15 by omega)
      obtain ⟨z, hz⟩ : ∃ z, z = 2 ^ k := ⟨_, rfl⟩
      have hz2 : 2 * z = 2 ^ (k + 1) := by rw [hz, Nat.pow_succ]; omega
      rw [← hz] at hcell h2k
      have hset : (List.replicate q 0 ++ [2 ^ k] : List Nat).set q (2 * z) = List.replicate q 0 ++ [2 ^ (k + 1)] := by
        rw [List.set_append_right _ _ (by simp), hz2]; simp
      have hrow2 := block_set hrow q (.int .i64 ((2 * z : Nat) : Int))
      rw [ivs_set, hset, show ((2 * z : Nat) : Int) = 2 * (z : Int) by omega] at hrow2
      have hzi : (z : Int) < 32768 := by omega
      have HR2 := hid hrow2
      clear hrow hgd hz hz2 hset hrow2
      go_wp2
      have hk := HK.out
      go_roundg (r - k - 1)
      case measure => omega
      case rel => exact ⟨k + 1, by omega, by go_num, HR2.out, HB.out.setCell (Nat.le_refl _) _⟩
    · obtain rfl : k = r := by have := HK.out; omega
      have hs := ivs_sq (c := q + 1) hrow (by simp) (by omega)
      have hki : ¬ (k : Int) < (k : Int) := by omega
      have HS := hid hs
      clear hrow hs
      go_wp2
      go_ret
      exact ⟨some ⟨w.heap.size, 0, none⟩, q + 1, by rw [HLEN.out]; rfl, by rw [HDG.out]; exact HS.out, HB.out⟩

set_option maxRecDepth 100000 in
set_option maxHeartbeats 1600000 in
theorem Mul_any (a b : Nat) (A A' : Option Addr) (c c' : Nat) (w : World) (hS : Sq w w.heap.size A c (ivs (dg a))) (hS' : Sq w w.heap.size A' c' (ivs (dg b))) (hl : (dg a).length ≤ 1073741824) (hl' : (dg b).length ≤ 1073741824) :
    Calls Try.prog 43 #[.slice A (dg a).length c, .slice A' (dg b).length c'] w (BigR w (a * b)) := by
  obtain ⟨i0, hi, hz0, hz1, hz2⟩ := info_parts infoI64
  obtain ⟨la, hla⟩ : ∃ l, l = (dg a).length := ⟨_, rfl⟩
  obtain ⟨lb, hlb⟩ : ∃ l, l = (dg b).length := ⟨_, rfl⟩
  have HS := hid hS; have HS' := hid hS'; have HLA := hid hla; have HLB := hid hlb
  rw [← hla] at hl ⊢
  rw [← hlb] at hl' ⊢
  clear hS hS' hla hlb
  go_enter Try.func43, Try.ntmps43
  go_wp2_with (at_make; refine wpList_make_full _ rfl _ _ 34 rfl w.heap.size 3 i0 (.int .i64 0) 1 Try.underlying34 hi hz0 hz1 _ _ _ _ (la + lb + 1) rfl rfl ?c0 ?c1 ?c2 ?c3 ?c4 ?_)
  case c0 => omega
  case c1 => omega
  case c2 => rw [hz2]; omega
  case c3 => unfold maxLen; omega
  case c4 => exact Nat.le_refl _
  intro w1 hown hg
  obtain ⟨hrow, _⟩ := own_row hown
  have hb1 : Below w.heap.size w w1 := below_of_grown hg (Nat.le_refl _) (fun _ h => by cases h)
  have hcs : (madeCells #[Value.int .i64 0] (la + lb + 1)).toList = ivs (List.replicate (la + lb + 1) 0) := by
    rw [ivs_zeros]; exact toList_madeCells_one _ _
  rw [hcs] at hrow
  have HROW := hid hrow; have HB := hid hb1
  clear hown hg hrow hb1 hcs hi hz0 hz1 hz2
  go_wp2
  go_loopg [6] la (fun g c wr => ∃ (i : Nat) (L : List Nat), i + g = la ∧ c = .int .i64 (i : Int) ∧ wr.heap[w.heap.size]? = some (.cells (ivs L).toArray 3 (0, 0)) ∧ L.length = la + lb + 1 ∧ Dgs L ∧ val L = (a % 32768 ^ i) * b ∧ (∀ j, i + lb ≤ j → L.getD j 0 = 0) ∧ Below w.heap.size w wr)
  case atStart =>
    refine ⟨0, List.replicate (la + lb + 1) 0, by omega, rfl, HROW.out, by simp, ?_, by rw [val_zeros, Nat.pow_zero, Nat.mod_one, Nat.zero_mul], fun j _ => ?_, HB.out⟩
    · intro x hx; rw [(List.mem_replicate.1 hx).2]; omega
    · rw [List.getD_eq_getElem?_getD, List.getElem?_replicate]; split <;> rfl
  case round =>
    clear HROW HB
    obtain ⟨i, L, hi, rfl, hrow, hL, hD, hv, hz, hb⟩ := hrel
    obtain ⟨wo, rfl⟩ : ∃ wo : World, wo = wr := ⟨_, rfl⟩
    have HI := hid hi; have HROW := hid hrow; have HL := hid hL; have HD := hid hD; have HV := hid hv; have HZ := hid hz; have HB := hid hb
    have hila : i ≤ la := by omega
    clear hi hrow hL hD hv hz hb
    by_cases hlt : i < la
    · have hii : (i : Int) < (la : Int) := by omega
      have hi0 : (0 : Int) ≤ (i : Int) := by omega
      obtain ⟨ba, oa, hAe, hba, hca⟩ := HS.out.dig (k := i) (by rw [← HLA.out]; exact hlt)
      rw [dg_getD] at hca
      obtain ⟨x, hx⟩ : ∃ x, x = a / 32768 ^ i % 32768 := ⟨_, rfl⟩
      rw [← hx] at hca
      have hxl : x < 32768 := by rw [hx]; exact Nat.mod_lt _ (by omega)
      have HX := hid hx; have HCA := hid hca
      subst hAe
      clear hx hca
      go_wp2
      go_loopg [7, 8] lb (fun g cy c wr => ∃ (k q : Nat) (L : List Nat), k + g = lb ∧ c = .int .i64 (k : Int) ∧ cy = .int .i64 (q : Int) ∧ q < 32768 ∧ wr.heap[w.heap.size]? = some (.cells (ivs L).toArray 3 (0, 0)) ∧ L.length = la + lb + 1 ∧ Dgs L ∧
        val L + 32768 ^ (i + k) * q = (a % 32768 ^ i) * b + 32768 ^ i * x * (b % 32768 ^ k) ∧ (∀ j, i + lb ≤ j → L.getD j 0 = 0) ∧ Below w.heap.size w wr)
      case atStart => exact ⟨0, 0, L, by omega, rfl, rfl, by omega, HROW.out, HL.out, HD.out, by rw [HV.out, Nat.pow_zero, Nat.mod_one]; simp, HZ.out, HB.out⟩
      case round =>
        clear HROW HL HD HV HZ HB
        obtain ⟨k, q, L, hk, rfl, rfl, hq, hrow, hL, hD, hv, hz, hb⟩ := hrel
        have HK := hid hk; have HROW := hid hrow; have HL := hid hL; have HD := hid hD; have HV := hid hv; have HZ := hid hz; have HB := hid hb
        have hklb : k ≤ lb := by omega
        clear hk hL hD hv hz hb
        by_cases hlt2 : k < lb
        · have hki : (k : Int) < (lb : Int) := by omega
          have hk0 : (0 : Int) ≤ (k : Int) := by omega
          obtain ⟨bb, ob, hBe, hbb, hcb⟩ := HS'.out.dig (k := k) (by rw [← HLB.out]; exact hlt2)
          rw [dg_getD] at hcb
          obtain ⟨y, hy⟩ : ∃ y, y = b / 32768 ^ k % 32768 := ⟨_, rfl⟩
          rw [← hy] at hcb
          have hyl : y < 32768 := by rw [hy]; exact Nat.mod_lt _ (by omega)
          have hca2 : wr.cell? ⟨ba, oa + i, none⟩ = some (.int .i64 (x : Int)) := (HB.out.cell (p := ⟨ba, oa + i, none⟩) hba).trans HCA.out
          have hcb2 : wr.cell? ⟨bb, ob + k, none⟩ = some (.int .i64 (y : Int)) := (HB.out.cell (p := ⟨bb, ob + k, none⟩) hbb).trans hcb
          have hco := ivs_cell hrow (i + k) (by rw [HL.out]; omega)
          have hfz : wr.frozen? ⟨w.heap.size, i + k, none⟩ = false := frozen_of_row _ _ _ _ _ hrow
          obtain ⟨l, hll⟩ : ∃ l, l = L.getD (i + k) 0 := ⟨_, rfl⟩
          have hl32 : l < 32768 := by rw [hll]; exact HD.out.getD _
          rw [← hll] at hco
          have hbd := mul_bound l x y q hl32 hxl hyl hq
          obtain ⟨m, hm⟩ : ∃ m, m = x * y := ⟨_, rfl⟩
          rw [← hm] at hbd
          have hvs := val_set L (i + k) ((l + m + q) % 32768) (by rw [HL.out]; omega)
          rw [← hll] at hvs
          have hin := mul_inner (32768 ^ (i + k)) (val L) (val (L.set (i + k) ((l + m + q) % 32768))) l m q _ HV.out hvs
          rw [hm, mul_next a b i k x y HX.out hy, ← hm] at hin
          have hrow2 := block_set hrow (i + k) (.int .i64 (((l + m + q) % 32768 : Nat) : Int))
          rw [ivs_set] at hrow2
          have hz2 : ∀ j, i + lb ≤ j → (L.set (i + k) ((l + m + q) % 32768)).getD j 0 = 0 := fun j hj => by
            rw [List.getD_eq_getElem?_getD, List.getElem?_set_ne (by omega), ← List.getD_eq_getElem?_getD]; exact HZ.out j hj
          have hmi : (x : Int) * (y : Int) = (m : Int) := by rw [hm]; simp
          have hmb : (m : Int) ≤ 1073676289 := by omega
          have hik0 : (0 : Int) ≤ (i : Int) + (k : Int) := by omega
          have hikw : IntKind.i64.wrap ((i : Int) + (k : Int)) = (i : Int) + (k : Int) := IntWalk.i64_in _ (by omega)
          have hikn : ((i : Int) + (k : Int)).toNat = i + k := by omega
          have hmw : IntKind.i64.wrap (m : Int) = (m : Int) := IntWalk.i64_in _ (by omega)
          have hlmw : IntKind.i64.wrap ((l : Int) + (m : Int)) = (l : Int) + (m : Int) := IntWalk.i64_in _ (by omega)
          have hlmqw : IntKind.i64.wrap ((l : Int) + (m : Int) + (q : Int)) = (l : Int) + (m : Int) + (q : Int) := IntWalk.i64_in _ (by omega)
          have hikl : (i : Int) + (k : Int) < ((la + lb + 1 : Nat) : Int) := by omega
          have hikl2 : i + k < la + lb + 1 := by omega
          have hs0 : (0 : Int) ≤ (l : Int) + (m : Int) + (q : Int) := by omega
          have hsb : (l : Int) + (m : Int) + (q : Int) < 1073741824 := by omega
          have hmod : ((l : Int) + (m : Int) + (q : Int)) % 32768 = (((l + m + q) % 32768 : Nat) : Int) := by omega
          have hdiv : ((l : Int) + (m : Int) + (q : Int)) / 32768 = (((l + m + q) / 32768 : Nat) : Int) := by omega
          have HR2 := hid hrow2; have HIN := hid hin; have HZ2 := hid hz2; have HBD := hid hbd.2.1; have HMOD := hid hmod; have HDIV := hid hdiv
          subst hBe
          clear hrow hll hbd hm hvs hin hrow2 hz2 hy hcb hmod hdiv
          go_wp2
          go_quiet (fail)
          clear hikw hmw hlmw hlmqw
          go_wp2
          have hr2 := HR2.out
          rw [← HMOD.out] at hr2
          have hk := HK.out
          go_roundg (lb - k - 1)
          case measure => omega
          case rel =>
            refine ⟨k + 1, (l + m + q) / 32768, _, by omega, by go_num, by rw [HDIV.out], HBD.out, ?_, by rw [List.length_set]; exact HL.out, HD.out.set _ _ (Nat.mod_lt _ (by omega)), ?_, HZ2.out, (belowB_drewN HB.out nq).setCell (Nat.le_refl _) _⟩
            · exact hr2
            · rw [← Nat.add_assoc, Nat.pow_succ]; exact HIN.out
        · obtain rfl : k = lb := by omega
          have hbk : b % 32768 ^ k = b := Nat.mod_eq_of_lt ((dg_length_le b k).1 (by rw [HLB.out]; exact Nat.le_refl _))
          have hv := HV.out
          rw [hbk] at hv
          have hco := ivs_cell hrow (i + k) (by rw [HL.out]; omega)
          rw [HZ.out (i + k) (Nat.le_refl _)] at hco
          have hfz : wr.frozen? ⟨w.heap.size, i + k, none⟩ = false := frozen_of_row _ _ _ _ _ hrow
          have hvs := val_set L (i + k) q (by rw [HL.out]; omega)
          rw [HZ.out (i + k) (Nat.le_refl _), Nat.mul_zero, Nat.add_zero, hv, mul_row a b i x HX.out] at hvs
          have hrow2 := block_set hrow (i + k) (.int .i64 ((q : Nat) : Int))
          rw [ivs_set] at hrow2
          have hz2 : ∀ j, i + 1 + k ≤ j → (L.set (i + k) q).getD j 0 = 0 := fun j hj => by
            rw [List.getD_eq_getElem?_getD, List.getElem?_set_ne (by omega), ← List.getD_eq_getElem?_getD]; exact HZ.out j (by omega)
          have hki : ¬ (k : Int) < (k : Int) := by omega
          have hik0 : (0 : Int) ≤ (i : Int) + (k : Int) := by omega
          have hikn : ((i : Int) + (k : Int)).toNat = i + k := by omega
          have hikl : (i : Int) + (k : Int) < ((la + k + 1 : Nat) : Int) := by omega
          have hikl2 : i + k < la + k + 1 := by omega
          have hq0 : (0 : Int) + (q : Int) = (q : Int) := by omega
          have HVS := hid hvs; have HR2 := hid hrow2; have HZ2 := hid hz2
          clear hrow hbk hv hvs hrow2 hz2
          go_wp2
          have hi := HI.out
          go_roundg (la - i - 1)
          case measure => omega
          case rel => exact ⟨i + 1, _, by omega, by go_num, HR2.out, by rw [List.length_set]; exact HL.out, HD.out.set _ _ hq, HVS.out, HZ2.out, HB.out.setCell (Nat.le_refl _) _⟩
    · obtain rfl : i = la := by omega
      have hai : a % 32768 ^ i = a := Nat.mod_eq_of_lt ((dg_length_le a i).1 (by rw [HLA.out]; exact Nat.le_refl _))
      have hv := HV.out
      rw [hai] at hv
      have hs := ivs_sq (c := i + lb + 1) HROW.out (by rw [HL.out]; exact Nat.le_refl _) (by omega)
      have HT := hid (trim_any _ L (i + lb + 1) _ wo hs HD.out (by rw [HL.out]; omega))
      rw [HL.out, hv] at HT
      have hki : ¬ (i : Int) < (i : Int) := by omega
      clear hai hv hs
      go_wp2_with fail
      refine HT.out.mono ?_
      rintro e w' ⟨rfl, hS6, rfl⟩
      have HS6 := hid hS6
      clear hS6
      go_wp2
      go_ret
      exact ⟨_, _, rfl, HS6.out, HB.out⟩
end
end Go.Proofs.Ytealegfmmeklcaa
