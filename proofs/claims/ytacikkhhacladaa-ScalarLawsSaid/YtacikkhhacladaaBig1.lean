/-
  The document's numbers of any size (package ratlineref02): noughts cut off, a digit, a number's digits.
-/
import Derived.Test.YtacikkhhacladaaShaS
import Derived.Test.YtacikkhhacladaaBigP
import Derived.Test.YtacikkhhacladaaQuiT
namespace Go.Proofs.Ytacikkhhacladaa
open Go.RowKit
set_option linter.unusedVariables false
set_option linter.unusedSimpArgs false

abbrev BigT : TypeId := 29
theorem infoI64 : (Try.prog.info? 3).map (fun i => (i.zero, i.size, i.bytes)) = some (some (.int .i64 0), 1, 8) := by kernel_rfl
/-- Digits as cells. -/
def ivs (xs : List Nat) : List Value := xs.map fun x => Value.int .i64 ((x : Nat) : Int)
@[simp] theorem ivs_length (xs : List Nat) : (ivs xs).length = xs.length := by simp [ivs]
theorem ivs_append (xs ys : List Nat) : ivs (xs ++ ys) = ivs xs ++ ivs ys := by simp [ivs]
theorem ivs_one (xs : List Nat) : ∀ u ∈ ivs xs, u.oneCell' = true := by
  intro u hu
  simp only [ivs, List.mem_map] at hu
  obtain ⟨x, _, rfl⟩ := hu
  rfl
theorem Sq.take {w : World} {B c : Nat} {A : Option Addr} {xs : List Value} (h : Sq w B A c xs) (n : Nat) : Sq w B A c (xs.take n) := by
  rcases h with ⟨rfl, h⟩ | ⟨b, o, hA, hb, h1, h2, hc⟩
  · exact .inl ⟨by simp, h⟩
  · refine .inr ⟨b, o, hA, hb, by rw [List.length_take]; omega, h2, fun j u hu => hc j u ?_⟩
    rw [List.getElem?_take] at hu
    split at hu
    · exact hu
    · cases hu
theorem Sq.dig {w : World} {B c : Nat} {A : Option Addr} {xs : List Nat} (h : Sq w B A c (ivs xs)) {k : Nat} (hk : k < xs.length) : ∃ b o, A = some ⟨b, o, none⟩ ∧ b < B ∧ w.cell? ⟨b, o + k, none⟩ = some (.int .i64 ((xs.getD k 0 : Nat) : Int)) := by
  obtain ⟨b, o, hA, hb, hc⟩ := h.lie.at_ (k := k) (by simpa using hk)
  refine ⟨b, o, hA, hb, ?_⟩
  rw [hc, List.getD_eq_getElem?_getD, List.getElem?_eq_getElem hk]
  simp [ivs]
/-- The call owns the digits xs. -/
def OwnI (w : World) (B : Nat) (v : Value) (xs : List Nat) : Prop := w.ownsRow B 3 1 v xs.length (ivs xs)
theorem owni_snoc {w : World} {B : Nat} {v : Value} {xs : List Nat} {n y : Nat} {z : Int} (h : w.ownsRow B 3 1 v n (ivs xs ++ [.int .i64 z])) (hn : n = xs.length + 1) (hz : z = (y : Int)) : OwnI w B v (xs ++ [y]) := by
  subst hn
  subst hz
  simpa [OwnI, ivs] using h
theorem owni_nil (w : World) (B : Nat) : OwnI w B (.slice none 0 0) [] := ⟨rfl, .inl ⟨rfl, rfl⟩⟩
/-- A number that a call made: its digits lie somewhere, and all that was there stays. -/
def BigR (w : World) (N : Nat) (e : Ending) (w' : World) : Prop := ∃ A c, e = .returned (.slice A (dg N).length c) ∧ Sq w' w'.heap.size A c (ivs (dg N)) ∧ Below w.heap.size w w'

set_option maxHeartbeats 800000 in
theorem trim_any (A : Option Addr) (xs : List Nat) (c B : Nat) (w : World) (hS : Sq w B A c (ivs xs)) (hd : Dgs xs) (hl : xs.length ≤ 1099511627776) :
    Calls Try.prog 30 #[.slice A xs.length c] w fun e w' => e = .returned (.slice A (dg (val xs)).length c) ∧ Sq w B A c (ivs (dg (val xs))) ∧ w = w' := by
  have hcap := hS.cap
  rw [ivs_length] at hcap
  obtain ⟨hc1, hc2⟩ := hcap
  have HS := hid hS; have HD := hid hd
  clear hS hd
  go_enter Try.func30, Try.ntmps30
  go_wp2
  go_loopg [0] (xs.length + 1) (fun g v wr => ∃ k : Nat, v = .slice A k c ∧ k ≤ xs.length ∧ g = k + 1 ∧ val (xs.take k) = val xs ∧ wr = w)
  case atStart => exact ⟨xs.length, rfl, Nat.le_refl _, rfl, by rw [List.take_length], rfl⟩
  case round =>
    obtain ⟨k, rfl, hk, hg, hv, rfl⟩ := hrel
    have HG := hid hg; have HV := hid hv
    clear hg hv
    rcases k with _ | k
    · have hz : dg (val xs) = [] := by rw [← HV.out, List.take_zero]; exact dg_zero
      have HZ := hid hz
      clear hz
      have h0 : ¬ (0 : Int) < ((0 : Nat) : Int) := by omega
      go_wp2
      go_ret
      exact ⟨by rw [HZ.out]; rfl, by rw [HZ.out]; exact HS.out.take 0, rfl⟩
    · have hkl : k < xs.length := by omega
      obtain ⟨b, o, rfl, hb, hcell⟩ := HS.out.dig hkl
      have hlk : (xs.take (k + 1)).length = k + 1 := by rw [List.length_take]; omega
      have hgd : (xs.take (k + 1)).getD k 0 = xs.getD k 0 := by simp [List.getD_eq_getElem?_getD, List.getElem?_take]
      obtain ⟨x, hx⟩ : ∃ x, x = xs.getD k 0 := ⟨_, rfl⟩
      rw [← hx] at hcell hgd
      have h0 : (0 : Int) < ((k + 1 : Nat) : Int) := by omega
      have h1 : (((k + 1 : Nat) : Int) - 1) = (k : Int) := by omega
      have h2 : (k : Int) < ((k + 1 : Nat) : Int) := by omega
      have hk0 : (0 : Int) ≤ (k : Int) := by omega
      have hkc : (k : Int) ≤ (c : Int) := by omega
      have hkm : ((k + 1 : Nat) : Int) ≤ 9223372036854775807 := by omega
      by_cases hx0 : x = 0
      · have hv2 : val (xs.take k) = val xs := by
          rw [← HV.out, ← val_take_nought (xs.take (k + 1)) k hlk (by rw [hgd, hx0]), List.take_take, Nat.min_eq_left (by omega)]
        have hxi : ((x : Int) == 0) = true := by simp [hx0]
        have HV2 := hid hv2
        clear hlk hgd hx hx0 hv2
        go_wp2
        have hg := HG.out
        go_roundg (k + 1)
        case measure => omega
        case rel => exact ⟨k, rfl, by omega, rfl, HV2.out, rfl⟩
      · have hz : dg (val xs) = xs.take (k + 1) := by
          rw [← HV.out]
          exact dg_val _ (HD.out.take _) (fun q hq => by
            have : q = k := by omega
            subst this
            rw [hgd]; exact hx0)
        have hxi : ((x : Int) == 0) = false := by simp [hx0]
        have HZ := hid hz; have HLK := hid hlk
        clear hlk hgd hx hx0 hz
        go_wp2
        go_ret
        exact ⟨by rw [HZ.out, HLK.out]; rfl, by rw [HZ.out]; have h := HS.out.take (k + 1); simpa [ivs, List.map_take] using h, rfl⟩

theorem digit_any (A : Option Addr) (xs : List Nat) (c B i : Nat) (w : World) (hS : Sq w B A c (ivs xs)) (hi : i ≤ 1099511627776) :
    Calls Try.prog 32 #[.slice A xs.length c, .int .i64 (i : Int)] w fun e w' => e = .returned (.int .i64 ((xs.getD i 0 : Nat) : Int)) ∧ w = w' := by
  have hi0 : (0 : Int) ≤ (i : Int) := by omega
  by_cases h : i < xs.length
  · obtain ⟨b, o, rfl, hb, hcell⟩ := hS.dig h
    have hx : (i : Int) < (xs.length : Int) := by omega
    obtain ⟨x, hxe⟩ : ∃ x, x = xs.getD i 0 := ⟨_, rfl⟩
    rw [← hxe] at hcell ⊢
    clear hS hxe
    go_enter Try.func32, Try.ntmps32
    go_wp2
    go_ret
    exact ⟨rfl, rfl⟩
  · have hx : ¬ (i : Int) < (xs.length : Int) := by omega
    have h0 : xs.getD i 0 = 0 := by rw [List.getD_eq_getElem?_getD, List.getElem?_eq_none (by omega)]; rfl
    rw [h0]
    clear hS h0
    go_enter Try.func32, Try.ntmps32
    go_wp2
    go_ret
    exact ⟨rfl, rfl⟩

set_option maxHeartbeats 800000 in
theorem Num_any (n : Nat) (w : World) (hn : n < 18446744073709551616) :
    Calls Try.prog 31 #[.int .u64 (n : Int)] w (BigR w n) := by
  go_enter Try.func31, Try.ntmps31
  go_wp2
  go_loopg [0, 3] n (fun g a v wr => ∃ (m : Nat) (xs : List Nat), g = m ∧ m < 18446744073709551616 ∧ a = .int .u64 (m : Int) ∧ OwnI wr w.heap.size v xs ∧ dg n = xs ++ dg m ∧ xs.length ≤ 5 ∧ m < 32768 ^ (5 - xs.length) ∧ Below w.heap.size w wr)
  case atStart => exact ⟨n, [], rfl, hn, rfl, owni_nil _ _, rfl, by simp, by simp; omega, Below.refl _ _⟩
  case round =>
    obtain ⟨m, xs, hg, hm, rfl, hown, hd, hl, hml, hb⟩ := hrel
    have HO := hid hown; have HD := hid hd; have HB := hid hb; have HG := hid hg
    obtain ⟨A, c, rfl, hS⟩ := own_sl hown
    have HS := hid hS.sq
    clear hown hd hb hg hS
    by_cases h0 : m = 0
    · subst h0
      have hd0 : dg n = xs := by rw [HD.out, dg_zero, List.append_nil]
      have HD0 := hid hd0
      clear hd0
      go_wp2
      go_ret
      exact ⟨A, c, by rw [HD0.out]; rfl, by rw [HD0.out]; exact HS.out, HB.out⟩
    · have hpos : (0 : Int) < (m : Int) := by omega
      have hl5 : xs.length < 5 := by
        rcases Nat.lt_or_ge xs.length 5 with h | h
        · exact h
        · rw [show 5 - xs.length = 0 by omega, Nat.pow_zero] at hml; omega
      have hsz : w.heap.size ≤ wr.heap.size := HB.out.size
      have hm32 : m / 32768 < 32768 ^ (5 - (xs.length + 1)) := by
        rw [show 5 - xs.length = (5 - (xs.length + 1)) + 1 by omega, Nat.pow_succ] at hml
        exact (Nat.div_lt_iff_lt_mul (by omega)).2 hml
      have HM := hid hm32
      clear hml hm32
      go_wp2_with (at_builtin; refine wpList_append_lie rfl (.tmp 6) (.tmp 10) 29 rfl w.heap.size 3 (.int .i64 0) 8 Try.underlying29 infoI64 rfl rfl (World.ownsRow.alloc HO.out _) rfl rfl (Lie.new1 _ _ _) ?d0 ?d1 ?d2 ?d3 ?_)
      case d0 => intro u hu; simp at hu; subst hu; rfl
      case d1 => rw [List.length_singleton]; unfold maxLen; omega
      case d2 => rw [List.length_singleton]; omega
      case d3 => simp; omega
      intro v2 w2 hown2 hg2 _
      have hO2 : OwnI w2 w.heap.size v2 (xs ++ [m % 32768]) := owni_snoc hown2 (by simp) (by omega)
      have hB2 : Below w.heap.size w w2 := (HB.out.alloc hsz _).grown hg2 (by simp; omega) (fun q h => own_lt (World.ownsRow.alloc HO.out (.cells #[.int .i64 ((m : Int) % 32768)] 3)) q h)
      have hdn : dg n = (xs ++ [m % 32768]) ++ dg (m / 32768) := by rw [HD.out, dg_pos m h0]; simp
      have HO2 := hid hO2; have HB2 := hid hB2; have HDN := hid hdn
      clear hown2 hg2 hO2 hB2 hdn
      go_wp2
      have hg := HG.out
      go_roundg (m / 32768)
      case measure => omega
      case rel => exact ⟨m / 32768, _, rfl, by omega, by go_num, HO2.out, HDN.out, by simp; omega, by rw [List.length_append]; exact HM.out, HB2.out⟩
end Go.Proofs.Ytacikkhhacladaa
