/-
  Texts of this claim in one file: BigP, Big3, Big4, Big5, BigB.
-/
import Derived.Test.YtheamlhhfkaknaaGreatDoorPk30
import Derived.Test.YtheamlhhfkaknaaGreatDoorPk28
import Derived.Test.YtheamlhhfkaknaaGreatDoorPk2
import Derived.Deep.RegionHeld3
section
namespace Go.Proofs.YtheamlhhfkaknaaGreatDoor
set_option linter.unusedVariables false
set_option linter.unusedSimpArgs false
/-- The digits of a number, the lowest first, without noughts at the end. -/
def dg (n : Nat) : List Nat := if h : n = 0 then [] else n % 32768 :: dg (n / 32768)
termination_by n
decreasing_by omega
def val : List Nat → Nat
  | [] => 0
  | d :: l => d + 32768 * val l
/-- All are digits. -/
def Dgs (ds : List Nat) : Prop := ∀ x ∈ ds, x < 32768
theorem dg_zero : dg 0 = [] := by rw [dg]; rfl
theorem dg_pos (n : Nat) (h : n ≠ 0) : dg n = n % 32768 :: dg (n / 32768) := by rw [dg]; simp [h]
theorem val_dg (n : Nat) : val (dg n) = n := by
  induction n using Nat.strongRecOn with
  | ind n ih =>
    by_cases h : n = 0
    · subst h; rw [dg_zero]; rfl
    · rw [dg_pos n h, val, ih (n / 32768) (by omega)]; omega
theorem dg_dgs (n : Nat) : Dgs (dg n) := by
  induction n using Nat.strongRecOn with
  | ind n ih =>
    by_cases h : n = 0
    · subst h; rw [dg_zero]; intro x hx; cases hx
    · rw [dg_pos n h]
      intro x hx
      rcases List.mem_cons.1 hx with rfl | hx
      · exact Nat.mod_lt _ (by omega)
      · exact ih (n / 32768) (by omega) x hx
theorem dg_getD (n i : Nat) : (dg n).getD i 0 = n / 32768 ^ i % 32768 := by
  induction i generalizing n with
  | zero =>
    by_cases h : n = 0
    · subst h; rw [dg_zero]; rfl
    · rw [dg_pos n h]; simp
  | succ i ih =>
    by_cases h : n = 0
    · subst h; rw [dg_zero]; simp
    · rw [dg_pos n h, List.getD_cons_succ, ih, Nat.div_div_eq_div_mul, Nat.pow_succ, Nat.mul_comm]
theorem dg_length_le (n k : Nat) : (dg n).length ≤ k ↔ n < 32768 ^ k := by
  induction k generalizing n with
  | zero =>
    by_cases h : n = 0
    · subst h; rw [dg_zero]; simp
    · rw [dg_pos n h]; simp; omega
  | succ k ih =>
    by_cases h : n = 0
    · subst h; rw [dg_zero]; simp; exact Nat.pow_pos (by omega)
    · rw [dg_pos n h, List.length_cons, Nat.succ_le_succ_iff, ih, Nat.div_lt_iff_lt_mul (by omega), Nat.pow_succ]
theorem dg_lt (n : Nat) : n < 32768 ^ (dg n).length := (dg_length_le n _).1 (Nat.le_refl _)
theorem dg_top (n : Nat) (h : (dg n).length ≠ 0) : 32768 ^ ((dg n).length - 1) ≤ n := by
  have := mt (dg_length_le n ((dg n).length - 1)).2 (by omega)
  omega
theorem dg_mono (a b : Nat) (h : a ≤ b) : (dg a).length ≤ (dg b).length := (dg_length_le a _).2 (Nat.lt_of_le_of_lt h (dg_lt b))
theorem dg_short (n i : Nat) (h : (dg n).length ≤ i) : n / 32768 ^ i = 0 := by
  rw [Nat.div_eq_of_lt]
  exact (dg_length_le n i).1 h
theorem val_append (xs ys : List Nat) : val (xs ++ ys) = val xs + 32768 ^ xs.length * val ys := by
  induction xs with
  | nil => simp [val]
  | cons x l ih =>
    rw [List.cons_append, val, ih, val, List.length_cons, Nat.pow_succ, Nat.mul_add]
    rw [Nat.add_assoc, Nat.mul_comm (32768 ^ l.length) 32768, Nat.mul_assoc]
theorem val_snoc (xs : List Nat) (y : Nat) : val (xs ++ [y]) = val xs + 32768 ^ xs.length * y := by
  rw [val_append]; simp [val]
theorem val_lt (xs : List Nat) (h : Dgs xs) : val xs < 32768 ^ xs.length := by
  induction xs with
  | nil => simp [val]
  | cons x l ih =>
    have h1 : x < 32768 := h x (by simp)
    have h2 := ih (fun y hy => h y (by simp [hy]))
    rw [val, List.length_cons, Nat.pow_succ]
    omega
theorem Dgs.snoc {xs : List Nat} {y : Nat} (h : Dgs xs) (hy : y < 32768) : Dgs (xs ++ [y]) := by
  intro x hx
  rcases List.mem_append.1 hx with hx | hx
  · exact h x hx
  · simp at hx; omega
theorem Dgs.take {xs : List Nat} (h : Dgs xs) (k : Nat) : Dgs (xs.take k) := fun x hx => h x (List.mem_of_mem_take hx)
/-- Digits without a nought at the end are the digits of what they come to. -/
theorem dg_val (xs : List Nat) (h : Dgs xs) (hl : ∀ k, xs.length = k + 1 → xs.getD k 0 ≠ 0) : dg (val xs) = xs := by
  induction xs with
  | nil => exact dg_zero
  | cons x l ih =>
    have h1 : x < 32768 := h x (by simp)
    have h2 : Dgs l := fun y hy => h y (by simp [hy])
    have h3 := ih h2 (fun k hk => by
      have := hl (k + 1) (by simp [hk])
      simpa using this)
    have hne : val (x :: l) ≠ 0 := by
      rw [val]
      rcases l with _ | ⟨y, l⟩
      · have := hl 0 rfl
        simp at this
        omega
      · intro e
        have hv : val (y :: l) = 0 := by omega
        rw [hv] at h3
        rw [dg_zero] at h3
        cases h3
    rw [dg_pos _ hne]
    have e1 : val (x :: l) % 32768 = x := by rw [val]; omega
    have e2 : val (x :: l) / 32768 = val l := by rw [val]; omega
    rw [e1, e2, h3]
/-- A nought at the end plays no part. -/
theorem val_take_nought (xs : List Nat) (k : Nat) (hk : xs.length = k + 1) (h : xs.getD k 0 = 0) : val (xs.take k) = val xs := by
  have h0 : xs = xs.take k ++ [0] := by
    have h1 : k < xs.length := by omega
    have h2 : xs[k] = 0 := by rw [List.getD_eq_getElem?_getD, List.getElem?_eq_getElem h1] at h; exact h
    rw [← h2, ← List.take_succ_eq_append_getElem h1, List.take_of_length_le (by omega)]
  conv => rhs; rw [h0]
  rw [val_snoc]; simp
/-- What the first k digits of a number come to, and one more. -/
theorem mod_next (a k : Nat) : a % 32768 ^ (k + 1) = a % 32768 ^ k + 32768 ^ k * (a / 32768 ^ k % 32768) := by
  rw [Nat.pow_succ, Nat.mod_mul]
theorem div_next (a k : Nat) : a / 32768 ^ k = 32768 * (a / 32768 ^ (k + 1)) + a / 32768 ^ k % 32768 := by
  rw [Nat.pow_succ, ← Nat.div_div_eq_div_mul]; omega
/-- One round of a sum. -/
theorem add_round (a b k v c : Nat) (h : v + 32768 ^ k * c = a % 32768 ^ k + b % 32768 ^ k) (hc : c ≤ 1) :
    (v + 32768 ^ k * ((a / 32768 ^ k % 32768 + b / 32768 ^ k % 32768 + c) % 32768)) + 32768 ^ (k + 1) * ((a / 32768 ^ k % 32768 + b / 32768 ^ k % 32768 + c) / 32768) = a % 32768 ^ (k + 1) + b % 32768 ^ (k + 1) ∧ (a / 32768 ^ k % 32768 + b / 32768 ^ k % 32768 + c) / 32768 ≤ 1 := by
  refine ⟨?_, by omega⟩
  rw [mod_next a, mod_next b, Nat.pow_succ]
  generalize a / 32768 ^ k % 32768 = x
  generalize b / 32768 ^ k % 32768 = y
  generalize hP : 32768 ^ k = P at *
  have e := Nat.div_add_mod (x + y + c) 32768
  rw [Nat.add_assoc, Nat.mul_assoc, ← Nat.mul_add P, Nat.add_comm ((x + y + c) % 32768), e]
  rw [Nat.mul_add, Nat.mul_add]
  omega
/-- At the end of a sum. -/
theorem add_end (a b k v : Nat) (h : v + 32768 ^ k * 0 = a % 32768 ^ k + b % 32768 ^ k) (ha : (dg a).length ≤ k) (hb : (dg b).length ≤ k) : v = a + b := by
  rw [Nat.mod_eq_of_lt ((dg_length_le a k).1 ha), Nat.mod_eq_of_lt ((dg_length_le b k).1 hb)] at h
  omega
/-- One round of a difference: v has the first digits, c is what was borrowed. -/
theorem sub_round (a b k v c : Nat) (h : v + b % 32768 ^ k = a % 32768 ^ k + 32768 ^ k * c) (hc : c ≤ 1) :
    let x := a / 32768 ^ k % 32768
    let y := b / 32768 ^ k % 32768
    (x < y + c → (v + 32768 ^ k * (x + 32768 - y - c)) + b % 32768 ^ (k + 1) = a % 32768 ^ (k + 1) + 32768 ^ (k + 1) * 1) ∧
    (y + c ≤ x → (v + 32768 ^ k * (x - y - c)) + b % 32768 ^ (k + 1) = a % 32768 ^ (k + 1) + 32768 ^ (k + 1) * 0) := by
  intro x y
  rw [mod_next a, mod_next b, Nat.pow_succ]
  show (x < y + c → (v + 32768 ^ k * (x + 32768 - y - c)) + (b % 32768 ^ k + 32768 ^ k * y) = (a % 32768 ^ k + 32768 ^ k * x) + 32768 ^ k * 32768 * 1) ∧ (y + c ≤ x → (v + 32768 ^ k * (x - y - c)) + (b % 32768 ^ k + 32768 ^ k * y) = (a % 32768 ^ k + 32768 ^ k * x) + 32768 ^ k * 32768 * 0)
  have hx : x < 32768 := Nat.mod_lt _ (by omega)
  have hy : y < 32768 := Nat.mod_lt _ (by omega)
  generalize x = x at *
  generalize y = y at *
  generalize 32768 ^ k = P at *
  constructor
  · intro hlt
    have e : x + 32768 - y - c + y + c = x + 32768 := by omega
    have e2 : P * (x + 32768 - y - c) + P * y + P * c = P * x + P * 32768 := by
      rw [← Nat.mul_add, ← Nat.mul_add, ← Nat.mul_add, e]
    omega
  · intro hle
    have e : x - y - c + y + c = x := by omega
    have e2 : P * (x - y - c) + P * y + P * c = P * x := by
      rw [← Nat.mul_add, ← Nat.mul_add, e]
    omega
theorem sub_end (a b k v c : Nat) (h : v + b % 32768 ^ k = a % 32768 ^ k + 32768 ^ k * c) (hba : b ≤ a) (ha : (dg a).length ≤ k) (hv : v < 32768 ^ k) : v = a - b := by
  have hak := (dg_length_le a k).1 ha
  rw [Nat.mod_eq_of_lt hak, Nat.mod_eq_of_lt (Nat.lt_of_le_of_lt hba hak)] at h
  rcases Nat.eq_zero_or_pos c with rfl | hc
  · omega
  · have : 32768 ^ k * 1 ≤ 32768 ^ k * c := Nat.mul_le_mul_left _ hc
    omega
/-- Comparing from the top. -/
theorem less_digit (a b k : Nat) (h : a / 32768 ^ (k + 1) = b / 32768 ^ (k + 1)) (hne : a / 32768 ^ k % 32768 ≠ b / 32768 ^ k % 32768) : decide (a < b) = decide (a / 32768 ^ k % 32768 < b / 32768 ^ k % 32768) := by
  have ha := div_next a k
  have hb := div_next b k
  have hP : 0 < 32768 ^ k := Nat.pow_pos (by omega)
  rw [decide_eq_decide]
  constructor
  · intro hlt
    have : a / 32768 ^ k ≤ b / 32768 ^ k := Nat.div_le_div_right (by omega)
    omega
  · intro hlt
    have : a / 32768 ^ k < b / 32768 ^ k := by omega
    rcases Nat.lt_or_ge a b with h1 | h1
    · exact h1
    · have := Nat.div_le_div_right (c := 32768 ^ k) h1
      omega
theorem less_same (a b k : Nat) (h : a / 32768 ^ (k + 1) = b / 32768 ^ (k + 1)) (he : a / 32768 ^ k % 32768 = b / 32768 ^ k % 32768) : a / 32768 ^ k = b / 32768 ^ k := by
  rw [div_next a k, div_next b k, h, he]
theorem less_short (a b : Nat) (h : (dg a).length < (dg b).length) : a < b := by
  have h1 := dg_lt a
  have h2 := dg_top b (by omega)
  have h3 : 32768 ^ (dg a).length ≤ 32768 ^ ((dg b).length - 1) := Nat.pow_le_pow_right (by omega) (by omega)
  omega
end Go.Proofs.YtheamlhhfkaknaaGreatDoor
end
section
namespace Go.Proofs.YtheamlhhfkaknaaGreatDoor
section
open Go.RowKit
set_option linter.unusedVariables false
set_option linter.unusedSimpArgs false
theorem infoI64 : (Tryz.prog.info? 3).map (fun i => (i.zero, i.size, i.bytes)) = some (some (.int .i64 0), 1, 8) := by kernel_rfl
/-- Digits as cells. -/
def ivs (xs : List Nat) : List Value := xs.map fun x => Value.int .i64 ((x : Nat) : Int)
@[simp] theorem ivs_length (xs : List Nat) : (ivs xs).length = xs.length := by simp [ivs]
theorem ivs_one (xs : List Nat) : ∀ u ∈ ivs xs, u.oneCell' = true := by
  intro u hu
  simp only [ivs, List.mem_map] at hu
  obtain ⟨x, _, rfl⟩ := hu
  rfl
theorem Sq.dig {w : World} {B c : Nat} {A : Option Addr} {xs : List Nat} (h : Sq w B A c (ivs xs)) {k : Nat} (hk : k < xs.length) : ∃ b o, A = some ⟨b, o, none⟩ ∧ b < B ∧ w.cell? ⟨b, o + k, none⟩ = some (.int .i64 ((xs.getD k 0 : Nat) : Int)) := by
  obtain ⟨b, o, hA, hb, hc⟩ := h.lie.at_ (k := k) (by simpa using hk)
  refine ⟨b, o, hA, hb, ?_⟩
  rw [hc, List.getD_eq_getElem?_getD, List.getElem?_eq_getElem hk]
  simp [ivs]
/-- The call owns the digits xs. -/
def OwnI (w : World) (B : Nat) (v : Value) (xs : List Nat) : Prop := w.ownsRow B 3 1 v xs.length (ivs xs)
theorem owni_snoc {w : World} {B : Nat} {v : Value} {xs : List Nat} {n y : Nat} {z : Int} (h : w.ownsRow B 3 1 v n (ivs xs ++ [.int .i64 z])) (hn : n = xs.length + 1) (hz : z = (y : Int)) : OwnI w B v (xs ++ [y]) := by
  subst hn
  subst hz
  simpa [OwnI, ivs] using h
theorem owni_nil (w : World) (B : Nat) : OwnI w B (.slice none 0 0) [] := ⟨rfl, .inl ⟨rfl, rfl⟩⟩
/-- A number that a call made: its digits lie somewhere, and all that was there stays. -/
def BigR (w : World) (N : Nat) (e : Ending) (w' : World) : Prop := ∃ A c, e = .returned (.slice A (dg N).length c) ∧ Sq w' w'.heap.size A c (ivs (dg N)) ∧ Below w.heap.size w w'
set_option maxHeartbeats 800000 in
theorem trim_any (A : Option Addr) (xs : List Nat) (c B : Nat) (w : World) (hS : Sq w B A c (ivs xs)) (hd : Dgs xs) (hl : xs.length ≤ 1099511627776) :
    Calls Tryz.prog 47 #[.slice A xs.length c] w fun e w' => e = .returned (.slice A (dg (val xs)).length c) ∧ Sq w B A c (ivs (dg (val xs))) ∧ w = w' := by
  have hcap := hS.cap
  rw [ivs_length] at hcap
  obtain ⟨hc1, hc2⟩ := hcap
  have HS := hid hS; have HD := hid hd
  clear hS hd
  go_enter Tryz.func47, Tryz.ntmps47
  go_wp2
  go_loopg [0] (xs.length + 1) (fun g v wr => ∃ k : Nat, v = .slice A k c ∧ k ≤ xs.length ∧ g = k + 1 ∧ val (xs.take k) = val xs ∧ wr = w)
  case atStart => exact ⟨xs.length, rfl, Nat.le_refl _, rfl, by rw [List.take_length], rfl⟩
  case round =>
    obtain ⟨k, rfl, hk, hg, hv, rfl⟩ := hrel
    have HG := hid hg; have HV := hid hv
    clear hg hv
    rcases k with _ | k
    · have hz : dg (val xs) = [] := by rw [← HV.out, List.take_zero]; exact dg_zero
      have HZ := hid hz
      clear hz
      have h0 : ¬ (0 : Int) < ((0 : Nat) : Int) := by omega
      go_wp2
      go_ret
      exact ⟨by rw [HZ.out]; rfl, by rw [HZ.out]; exact HS.out.take 0, rfl⟩
    · have hkl : k < xs.length := by omega
      obtain ⟨b, o, rfl, hb, hcell⟩ := HS.out.dig hkl
      have hlk : (xs.take (k + 1)).length = k + 1 := by rw [List.length_take]; omega
      have hgd : (xs.take (k + 1)).getD k 0 = xs.getD k 0 := by simp [List.getD_eq_getElem?_getD, List.getElem?_take]
      obtain ⟨x, hx⟩ : ∃ x, x = xs.getD k 0 := ⟨_, rfl⟩
      rw [← hx] at hcell hgd
      have h0 : (0 : Int) < ((k + 1 : Nat) : Int) := by omega
      have h1 : (((k + 1 : Nat) : Int) - 1) = (k : Int) := by omega
      have h2 : (k : Int) < ((k + 1 : Nat) : Int) := by omega
      have hk0 : (0 : Int) ≤ (k : Int) := by omega
      have hkc : (k : Int) ≤ (c : Int) := by omega
      have hkm : ((k + 1 : Nat) : Int) ≤ 9223372036854775807 := by omega
      by_cases hx0 : x = 0
      · have hv2 : val (xs.take k) = val xs := by
          rw [← HV.out, ← val_take_nought (xs.take (k + 1)) k hlk (by rw [hgd, hx0]), List.take_take, Nat.min_eq_left (by omega)]
        have hxi : ((x : Int) == 0) = true := by simp [hx0]
        have HV2 := hid hv2
        clear hlk hgd hx hx0 hv2
        go_wp2
        have hg := HG.out
        go_roundg (k + 1)
        case measure => omega
        case rel => exact ⟨k, rfl, by omega, rfl, HV2.out, rfl⟩
      · have hz : dg (val xs) = xs.take (k + 1) := by
          rw [← HV.out]
          exact dg_val _ (HD.out.take _) (fun q hq => by
            have : q = k := by omega
            subst this
            rw [hgd]; exact hx0)
        have hxi : ((x : Int) == 0) = false := by simp [hx0]
        have HZ := hid hz; have HLK := hid hlk
        clear hlk hgd hx hx0 hz
        go_wp2
        go_ret
        exact ⟨by rw [HZ.out, HLK.out]; rfl, by rw [HZ.out]; have h := HS.out.take (k + 1); simpa [ivs, List.map_take] using h, rfl⟩
theorem digit_any (A : Option Addr) (xs : List Nat) (c B i : Nat) (w : World) (hS : Sq w B A c (ivs xs)) (hi : i ≤ 1099511627776) :
    Calls Tryz.prog 46 #[.slice A xs.length c, .int .i64 (i : Int)] w fun e w' => e = .returned (.int .i64 ((xs.getD i 0 : Nat) : Int)) ∧ w = w' := by
  have hi0 : (0 : Int) ≤ (i : Int) := by omega
  by_cases h : i < xs.length
  · obtain ⟨b, o, rfl, hb, hcell⟩ := hS.dig h
    have hx : (i : Int) < (xs.length : Int) := by omega
    obtain ⟨x, hxe⟩ : ∃ x, x = xs.getD i 0 := ⟨_, rfl⟩
    rw [← hxe] at hcell ⊢
    clear hS hxe
    go_enter Tryz.func46, Tryz.ntmps46
    go_wp2
    go_ret
    exact ⟨rfl, rfl⟩
  · have hx : ¬ (i : Int) < (xs.length : Int) := by omega
    have h0 : xs.getD i 0 = 0 := by rw [List.getD_eq_getElem?_getD, List.getElem?_eq_none (by omega)]; rfl
    rw [h0]
    clear hS h0
    go_enter Tryz.func46, Tryz.ntmps46
    go_wp2
    go_ret
    exact ⟨rfl, rfl⟩
set_option maxHeartbeats 800000 in
theorem Num_any (n : Nat) (w : World) (hn : n < 18446744073709551616) :
    Calls Tryz.prog 41 #[.int .u64 (n : Int)] w (BigR w n) := by
  go_enter Tryz.func41, Tryz.ntmps41
  go_wp2
  go_loopg [0, 3] n (fun g a v wr => ∃ (m : Nat) (xs : List Nat), g = m ∧ m < 18446744073709551616 ∧ a = .int .u64 (m : Int) ∧ OwnI wr w.heap.size v xs ∧ dg n = xs ++ dg m ∧ xs.length ≤ 5 ∧ m < 32768 ^ (5 - xs.length) ∧ Below w.heap.size w wr)
  case atStart => exact ⟨n, [], rfl, hn, rfl, owni_nil _ _, rfl, by simp, by simp; omega, Below.refl _ _⟩
  case round =>
    obtain ⟨m, xs, hg, hm, rfl, hown, hd, hl, hml, hb⟩ := hrel
    have HO := hid hown; have HD := hid hd; have HB := hid hb; have HG := hid hg
    obtain ⟨A, c, rfl, hS⟩ := own_sl hown
    have HS := hid hS.sq
    clear hown hd hb hg hS
    by_cases h0 : m = 0
    · subst h0
      have hd0 : dg n = xs := by rw [HD.out, dg_zero, List.append_nil]
      have HD0 := hid hd0
      clear hd0
      go_wp2
      go_ret
      exact ⟨A, c, by rw [HD0.out]; rfl, by rw [HD0.out]; exact HS.out, HB.out⟩
    · have hpos : (0 : Int) < (m : Int) := by omega
      have hl5 : xs.length < 5 := by
        rcases Nat.lt_or_ge xs.length 5 with h | h
        · exact h
        · rw [show 5 - xs.length = 0 by omega, Nat.pow_zero] at hml; omega
      have hsz : w.heap.size ≤ wr.heap.size := HB.out.size
      have hm32 : m / 32768 < 32768 ^ (5 - (xs.length + 1)) := by
        rw [show 5 - xs.length = (5 - (xs.length + 1)) + 1 by omega, Nat.pow_succ] at hml
        exact (Nat.div_lt_iff_lt_mul (by omega)).2 hml
      have HM := hid hm32
      clear hml hm32
      go_wp2_with (at_builtin; refine wpList_append_lie rfl (.tmp 6) (.tmp 10) 34 rfl w.heap.size 3 (.int .i64 0) 8 Tryz.underlying34 infoI64 rfl rfl (World.ownsRow.alloc HO.out _) rfl rfl (Lie.new1 _ _ _) ?d0 ?d1 ?d2 ?d3 ?_)
      case d0 => intro u hu; simp at hu; subst hu; rfl
      case d1 => rw [List.length_singleton]; unfold maxLen; omega
      case d2 => rw [List.length_singleton]; omega
      case d3 => simp; omega
      intro v2 w2 hown2 hg2 _
      have hO2 : OwnI w2 w.heap.size v2 (xs ++ [m % 32768]) := owni_snoc hown2 (by simp) (by omega)
      have hB2 : Below w.heap.size w w2 := (HB.out.alloc hsz _).grown hg2 (by simp; omega) (fun q h => own_lt (World.ownsRow.alloc HO.out (.cells #[.int .i64 ((m : Int) % 32768)] 3)) q h)
      have hdn : dg n = (xs ++ [m % 32768]) ++ dg (m / 32768) := by rw [HD.out, dg_pos m h0]; simp
      have HO2 := hid hO2; have HB2 := hid hB2; have HDN := hid hdn
      clear hown2 hg2 hO2 hB2 hdn
      go_wp2
      have hg := HG.out
      go_roundg (m / 32768)
      case measure => omega
      case rel => exact ⟨m / 32768, _, rfl, by omega, by go_num, HO2.out, HDN.out, by simp; omega, by rw [List.length_append]; exact HM.out, HB2.out⟩
end
section
open Go.RowKit
set_option linter.unusedVariables false
set_option linter.unusedSimpArgs false
set_option maxRecDepth 100000 in
set_option maxHeartbeats 800000 in
theorem Less_any (a b : Nat) (A A' : Option Addr) (c c' B B' : Nat) (w : World) (hS : Sq w B A c (ivs (dg a))) (hS' : Sq w B' A' c' (ivs (dg b))) (hl : (dg a).length ≤ 1099511627776) :
    Calls Tryz.prog 57 #[.slice A (dg a).length c, .slice A' (dg b).length c'] w fun e w' => e = .returned (.bool (decide (a < b))) ∧ ∃ n, w' = w.drewN n := by
  by_cases hlen : (dg a).length = (dg b).length
  · have hne : (((dg a).length : Int) != ((dg b).length : Int)) = false := by simp [hlen]
    obtain ⟨la, hla⟩ : ∃ l, l = (dg a).length := ⟨_, rfl⟩
    have h0 : a / 32768 ^ la = b / 32768 ^ la := by rw [hla, dg_short a _ (Nat.le_refl _), dg_short b _ (by omega)]
    have hlb : (dg b).length = la := by omega
    have hla2 : (la : Int) ≤ 1099511627776 := by omega
    have HS := hid hS; have HS' := hid hS'; have H0 := hid h0; have HLA := hid hla; have HLB := hid hlb
    rw [← hlen, ← hla] at hne
    rw [hlb, ← hla]
    clear hS hS' h0 hlen hla hlb hl
    go_enter Tryz.func57, Tryz.ntmps57
    go_wp2
    go_loopg [5] la (fun g i wr => ∃ k : Nat, k = g ∧ k ≤ la ∧ i = .int .i64 ((k : Int) - 1) ∧ a / 32768 ^ k = b / 32768 ^ k ∧ ∃ n, wr = w.drewN n)
    case atStart => exact ⟨la, rfl, Nat.le_refl _, rfl, H0.out, 0, rfl⟩
    case round =>
      obtain ⟨k, hk, hkl, rfl, hd, hw⟩ := hrel
      have hcell : ∀ p, wr.cell? p = w.cell? p := by obtain ⟨n, rfl⟩ := hw; exact fun p => rfl
      have HC := hid hcell; have HD := hid hd; have HW := hid hw; have HK := hid hk
      clear hcell hd hw hk
      rcases k with _ | k
      · have hab : a = b := by have := HD.out; simpa using this
        have HF : Hid (decide (a < b) = false) := hid (by rw [hab]; simp)
        clear hab
        go_wp2
        go_ret
        exact ⟨by rw [HF.out]; rfl, HW.out⟩
      · have e1 : (((k + 1 : Nat) : Int) - 1) = (k : Int) := by omega
        rw [e1]
        clear e1
        have hk0 : (0 : Int) ≤ (k : Int) := by omega
        have hkl2 : (k : Int) < (la : Int) := by omega
        have hkl3 : (k : Int) ≤ 1099511627776 := by omega
        obtain ⟨b1, o1, rfl, _, hc1⟩ := HS.out.dig (k := k) (by rw [← HLA.out]; omega)
        obtain ⟨b2, o2, rfl, _, hc2⟩ := HS'.out.dig (k := k) (by rw [HLB.out]; omega)
        rw [← HC.out] at hc1 hc2
        rw [dg_getD] at hc1 hc2
        have hle := less_digit a b k HD.out
        have hsm := less_same a b k HD.out
        obtain ⟨x, hx⟩ : ∃ x, x = a / 32768 ^ k % 32768 := ⟨_, rfl⟩
        obtain ⟨y, hy⟩ : ∃ y, y = b / 32768 ^ k % 32768 := ⟨_, rfl⟩
        rw [← hx] at hc1
        rw [← hy] at hc2
        rw [← hx, ← hy] at hle hsm
        have HLE := hid hle; have HSM := hid hsm
        clear hx hy hle hsm
        by_cases he : x = y
        · have hne2 : ((x : Int) != (y : Int)) = false := by simp [he]
          have HN := hid (HSM.out he)
          clear he HLE HSM
          go_wp2
          go_quiet (fail)
          go_wp2
          have hk := HK.out
          go_roundg (gk - 1)
          case measure => omega
          case rel => exact ⟨k, by omega, by omega, rfl, HN.out, by obtain ⟨n, hn⟩ := HW.out; exact ⟨_, by rw [hn, World.drewN_drewN]⟩⟩
        · have hne2 : ((x : Int) != (y : Int)) = true := by rw [bne_iff_ne]; omega
          have HN := hid (HLE.out he)
          clear he HLE HSM
          by_cases hxy : x < y
          · have hi : (x : Int) < (y : Int) := by omega
            have hdx : decide (x < y) = true := decide_eq_true hxy
            have HDX := hid hdx
            clear hxy hdx
            go_wp2
            go_quiet (fail)
            go_wp2
            go_quiet (fail)
            go_wp2
            try rw [HDX.out]
            go_ret
            exact ⟨by rw [HN.out, HDX.out]; rfl, by obtain ⟨n, hn⟩ := HW.out; exact ⟨_, by rw [hn, World.drewN_drewN, World.drewN_drewN]⟩⟩
          · have hi : ¬ (x : Int) < (y : Int) := by omega
            have hdx : decide (x < y) = false := decide_eq_false hxy
            have HDX := hid hdx
            clear hxy hdx
            go_wp2
            go_quiet (fail)
            go_wp2
            go_quiet (fail)
            go_wp2
            try rw [HDX.out]
            go_ret
            exact ⟨by rw [HN.out, HDX.out]; rfl, by obtain ⟨n, hn⟩ := HW.out; exact ⟨_, by rw [hn, World.drewN_drewN, World.drewN_drewN]⟩⟩
  · have hne : (((dg a).length : Int) != ((dg b).length : Int)) = true := by rw [bne_iff_ne]; omega
    have hlt : decide (a < b) = decide ((dg a).length < (dg b).length) := by
      rw [decide_eq_decide]
      constructor
      · intro h; have := dg_mono a b (Nat.le_of_lt h); omega
      · exact less_short a b
    have HLT := hid hlt
    clear hS hS' hlen hlt
    by_cases hx : (dg a).length < (dg b).length
    · have hi : ((dg a).length : Int) < ((dg b).length : Int) := by omega
      have hdx : decide ((dg a).length < (dg b).length) = true := decide_eq_true hx
      have HDX := hid hdx
      clear hx hdx
      go_enter Tryz.func57, Tryz.ntmps57
      go_wp2
      try rw [HDX.out]
      go_ret
      exact ⟨by rw [HLT.out, HDX.out]; rfl, 0, rfl⟩
    · have hi : ¬ ((dg a).length : Int) < ((dg b).length : Int) := by omega
      have hdx : decide ((dg a).length < (dg b).length) = false := decide_eq_false hx
      have HDX := hid hdx
      clear hx hdx
      go_enter Tryz.func57, Tryz.ntmps57
      go_wp2
      try rw [HDX.out]
      go_ret
      exact ⟨by rw [HLT.out, HDX.out]; rfl, 0, rfl⟩
set_option maxRecDepth 100000 in
set_option maxHeartbeats 800000 in
theorem Add_any (a b : Nat) (A A' : Option Addr) (c c' : Nat) (w : World) (hS : Sq w w.heap.size A c (ivs (dg a))) (hS' : Sq w w.heap.size A' c' (ivs (dg b))) (hl : (dg a).length ≤ 1073741824) (hl' : (dg b).length ≤ 1073741824) :
    Calls Tryz.prog 19 #[.slice A (dg a).length c, .slice A' (dg b).length c'] w (BigR w (a + b)) := by
  have HS := hid hS; have HS' := hid hS'
  obtain ⟨M, hM⟩ : ∃ M, M = max (dg a).length (dg b).length := ⟨_, rfl⟩
  have hM1 : (dg a).length ≤ M := by omega
  have hM2 : (dg b).length ≤ M := by omega
  have hM3 : M ≤ 1073741824 := by omega
  have hM4 : ∀ k, M < k ∨ k < (dg a).length ∨ k < (dg b).length ∨ k = M := fun k => by omega
  have HM4 := hid hM4
  clear hS hS' hM hM4
  go_enter Tryz.func19, Tryz.ntmps19
  go_wp2
  go_loopg [5, 6, 7] (2 * (M + 1)) (fun g v cy i wr => ∃ (k q : Nat) (xs : List Nat), g = 2 * (M + 1 - k) + q ∧ i = .int .i64 (k : Int) ∧ cy = .int .i64 (q : Int) ∧ OwnI wr w.heap.size v xs ∧ xs.length = k ∧ Dgs xs ∧ val xs + 32768 ^ k * q = a % 32768 ^ k + b % 32768 ^ k ∧ q ≤ 1 ∧ k ≤ M + 1 ∧ (M < k → q = 0) ∧ Below w.heap.size w wr)
  case atStart => exact ⟨0, 0, [], rfl, rfl, rfl, owni_nil _ _, rfl, (by intro x hx; cases hx), by simp [val, Nat.mod_one], by omega, by omega, fun _ => rfl, Below.refl _ _⟩
  case round =>
    obtain ⟨k, q, xs, hg, rfl, rfl, hown, hxl, hD, hv, hq, hk, hMk, hb⟩ := hrel
    have HO := hid hown; have HX := hid hxl; have HDG := hid hD; have HV := hid hv; have HMK := hid hMk; have HB := hid hb; have HG := hid hg
    obtain ⟨A5, c5, rfl, hS5⟩ := own_sl hown
    have hsz : w.heap.size ≤ wr.heap.size := HB.out.size
    rw [hxl]
    have hO2 : wr.ownsRow w.heap.size 3 1 (.slice A5 k c5) k (ivs xs) := by
      have h := hown; unfold OwnI at h; rwa [hxl] at h
    have HO2 := hid hO2; have HS5 := hid hS5.sq
    clear hown hxl hD hv hMk hb hg hS5 hO2
    by_cases hgo : k < (dg a).length ∨ k < (dg b).length ∨ 0 < q
    · have hkM : k ≤ M := by have := HMK.out; omega
      obtain ⟨x, hx⟩ : ∃ x, x = a / 32768 ^ k % 32768 := ⟨_, rfl⟩
      obtain ⟨y, hy⟩ : ∃ y, y = b / 32768 ^ k % 32768 := ⟨_, rfl⟩
      have hda := fun W => digit_any A (dg a) c w.heap.size k W
      have HDA : Hid (∀ W, Below w.heap.size w W → Calls Tryz.prog 46 #[.slice A (dg a).length c, .int .i64 (k : Int)] W fun e w' => e = .returned (.int .i64 (x : Int)) ∧ W = w') := hid fun W hW => by
        have h := digit_any A (dg a) c w.heap.size k W (HS.out.below hW) (by omega)
        rw [dg_getD, ← hx] at h; exact h
      have HDB : Hid (∀ W, Below w.heap.size w W → Calls Tryz.prog 46 #[.slice A' (dg b).length c', .int .i64 (k : Int)] W fun e w' => e = .returned (.int .i64 (y : Int)) ∧ W = w') := hid fun W hW => by
        have h := digit_any A' (dg b) c' w.heap.size k W (HS'.out.below hW) (by omega)
        rw [dg_getD, ← hy] at h; exact h
      have hrd := add_round a b k (val xs) q HV.out hq
      rw [← hx, ← hy] at hrd
      have hx1 : x < 32768 := by rw [hx]; exact Nat.mod_lt _ (by omega)
      have hy1 : y < 32768 := by rw [hy]; exact Nat.mod_lt _ (by omega)
      have hnew : M < k + 1 → (x + y + q) / 32768 = 0 := by
        intro h
        have hke : k = M := by omega
        have hxz : x = 0 := by rw [hx, dg_short a k (by omega)]
        have hyz : y = 0 := by rw [hy, dg_short b k (by omega)]
        rw [hxz, hyz]; omega
      have HRD := hid hrd; have HNW := hid hnew
      clear hx hy hda hrd hnew
      have hk0 : (0 : Int) ≤ (k : Int) := by omega
      have hq0 : (0 : Int) ≤ (q : Int) := by omega
      have hs : (0 : Int) ≤ (x : Int) + (y : Int) + (q : Int) := by omega
      have hs2 : (x : Int) + (y : Int) + (q : Int) ≤ 65535 := by omega
      have hs3 : ((x : Int) + (y : Int) + (q : Int)) / 32768 = (((x + y + q) / 32768 : Nat) : Int) := by omega
      by_cases e1 : k < (dg a).length
      · have e1i : (k : Int) < ((dg a).length : Int) := by omega
        clear hgo
        go_wp2_with fail
        refine (HDA.out _ HB.out).mono ?_
        rintro e w' ⟨rfl, rfl⟩
        go_wp2_with fail
        refine (HDB.out _ HB.out).mono ?_
        rintro e w' ⟨rfl, rfl⟩
        go_wp2_with (at_builtin; refine wpList_append_lie rfl (.tmp 34) (.tmp 37) 34 rfl w.heap.size 3 (.int .i64 0) 8 Tryz.underlying34 infoI64 rfl rfl (World.ownsRow.alloc HO2.out _) rfl rfl (Lie.new1 _ _ _) ?a1 ?b1 ?c1 ?e1 ?_)
        case a1 => intro u hu; simp at hu; subst hu; rfl
        case b1 => rw [List.length_singleton]; unfold maxLen; omega
        case c1 => rw [List.length_singleton]; omega
        case e1 => simp; omega
        intro v2 w2 hown2 hg2 _
        have hO3 : OwnI w2 w.heap.size v2 (xs ++ [(x + y + q) % 32768]) := owni_snoc hown2 (by rw [HX.out]) (by omega)
        have hB2 : Below w.heap.size w w2 := (HB.out.alloc hsz _).grown hg2 (by simp; omega) (fun q h => own_lt (World.ownsRow.alloc HO2.out (.cells #[.int .i64 (((x : Int) + (y : Int) + (q : Int)) % 32768)] 3)) q h)
        have HO3 := hid hO3; have HB2 := hid hB2
        clear hown2 hg2 hO3 hB2
        go_wp2
        have hg := HG.out
        go_roundg (2 * (M + 1 - (k + 1)) + (x + y + q) / 32768)
        case measure => have := HRD.out.2; omega
        case rel => exact ⟨k + 1, (x + y + q) / 32768, _, rfl, by go_num, by go_num, HO3.out, by rw [List.length_append, HX.out]; rfl, HDG.out.snoc (Nat.mod_lt _ (by omega)), by rw [val_snoc, HX.out]; exact HRD.out.1, HRD.out.2, by omega, HNW.out, HB2.out⟩
      · by_cases e2 : k < (dg b).length
        · have e1i : ¬ (k : Int) < ((dg a).length : Int) := by omega
          have e2i : (k : Int) < ((dg b).length : Int) := by omega
          have e1d : decide (k < (dg a).length) = false := decide_eq_false e1
          have e2d : decide (k < (dg b).length) = true := decide_eq_true e2
          clear hgo
          go_wp2_with fail
          refine (HDA.out _ HB.out).mono ?_
          rintro e w' ⟨rfl, rfl⟩
          go_wp2_with fail
          refine (HDB.out _ HB.out).mono ?_
          rintro e w' ⟨rfl, rfl⟩
          go_wp2_with (at_builtin; refine wpList_append_lie rfl (.tmp 34) (.tmp 37) 34 rfl w.heap.size 3 (.int .i64 0) 8 Tryz.underlying34 infoI64 rfl rfl (World.ownsRow.alloc HO2.out _) rfl rfl (Lie.new1 _ _ _) ?a2 ?b2 ?c2 ?e2 ?_)
          case a2 => intro u hu; simp at hu; subst hu; rfl
          case b2 => rw [List.length_singleton]; unfold maxLen; omega
          case c2 => rw [List.length_singleton]; omega
          case e2 => simp; omega
          intro v2 w2 hown2 hg2 _
          have hO3 : OwnI w2 w.heap.size v2 (xs ++ [(x + y + q) % 32768]) := owni_snoc hown2 (by rw [HX.out]) (by omega)
          have hB2 : Below w.heap.size w w2 := (HB.out.alloc hsz _).grown hg2 (by simp; omega) (fun q h => own_lt (World.ownsRow.alloc HO2.out (.cells #[.int .i64 (((x : Int) + (y : Int) + (q : Int)) % 32768)] 3)) q h)
          have HO3 := hid hO3; have HB2 := hid hB2
          clear hown2 hg2 hO3 hB2
          go_wp2
          have hg := HG.out
          go_roundg (2 * (M + 1 - (k + 1)) + (x + y + q) / 32768)
          case measure => have := HRD.out.2; omega
          case rel => exact ⟨k + 1, (x + y + q) / 32768, _, rfl, by go_num, by go_num, HO3.out, by rw [List.length_append, HX.out]; rfl, HDG.out.snoc (Nat.mod_lt _ (by omega)), by rw [val_snoc, HX.out]; exact HRD.out.1, HRD.out.2, by omega, HNW.out, HB2.out⟩
        · have e1i : ¬ (k : Int) < ((dg a).length : Int) := by omega
          have e2i : ¬ (k : Int) < ((dg b).length : Int) := by omega
          have e1d : decide (k < (dg a).length) = false := decide_eq_false e1
          have e2d : decide (k < (dg b).length) = false := decide_eq_false e2
          have e3i : (0 : Int) < (q : Int) := by omega
          clear hgo
          go_wp2_with fail
          refine (HDA.out _ HB.out).mono ?_
          rintro e w' ⟨rfl, rfl⟩
          go_wp2_with fail
          refine (HDB.out _ HB.out).mono ?_
          rintro e w' ⟨rfl, rfl⟩
          go_wp2_with (at_builtin; refine wpList_append_lie rfl (.tmp 34) (.tmp 37) 34 rfl w.heap.size 3 (.int .i64 0) 8 Tryz.underlying34 infoI64 rfl rfl (World.ownsRow.alloc HO2.out _) rfl rfl (Lie.new1 _ _ _) ?a3 ?b3 ?c3 ?e3 ?_)
          case a3 => intro u hu; simp at hu; subst hu; rfl
          case b3 => rw [List.length_singleton]; unfold maxLen; omega
          case c3 => rw [List.length_singleton]; omega
          case e3 => simp; omega
          intro v2 w2 hown2 hg2 _
          have hO3 : OwnI w2 w.heap.size v2 (xs ++ [(x + y + q) % 32768]) := owni_snoc hown2 (by rw [HX.out]) (by omega)
          have hB2 : Below w.heap.size w w2 := (HB.out.alloc hsz _).grown hg2 (by simp; omega) (fun q h => own_lt (World.ownsRow.alloc HO2.out (.cells #[.int .i64 (((x : Int) + (y : Int) + (q : Int)) % 32768)] 3)) q h)
          have HO3 := hid hO3; have HB2 := hid hB2
          clear hown2 hg2 hO3 hB2
          go_wp2
          have hg := HG.out
          go_roundg (2 * (M + 1 - (k + 1)) + (x + y + q) / 32768)
          case measure => have := HRD.out.2; omega
          case rel => exact ⟨k + 1, (x + y + q) / 32768, _, rfl, by go_num, by go_num, HO3.out, by rw [List.length_append, HX.out]; rfl, HDG.out.snoc (Nat.mod_lt _ (by omega)), by rw [val_snoc, HX.out]; exact HRD.out.1, HRD.out.2, by omega, HNW.out, HB2.out⟩
    · have e1 : ¬ k < (dg a).length := fun h => hgo (.inl h)
      have e2 : ¬ k < (dg b).length := fun h => hgo (.inr (.inl h))
      have hq0 : q = 0 := by
        rcases Nat.eq_zero_or_pos q with h | h
        · exact h
        · exact absurd (.inr (.inr h)) hgo
      subst hq0
      have e1i : ¬ (k : Int) < ((dg a).length : Int) := by omega
      have e2i : ¬ (k : Int) < ((dg b).length : Int) := by omega
      have e1d : decide (k < (dg a).length) = false := decide_eq_false e1
      have e2d : decide (k < (dg b).length) = false := decide_eq_false e2
      have e3i : ¬ (0 : Int) < ((0 : Nat) : Int) := by omega
      have hend := add_end a b k (val xs) HV.out (by omega) (by omega)
      have HT := hid (trim_any A5 xs c5 wr.heap.size wr HS5.out HDG.out (by rw [HX.out]; omega))
      rw [HX.out, hend] at HT
      clear hgo hend
      go_wp2_with fail
      refine HT.out.mono ?_
      rintro e w' ⟨rfl, hS6, rfl⟩
      have HS6 := hid hS6
      clear hS6
      go_wp2
      go_ret
      exact ⟨A5, c5, rfl, HS6.out, HB.out⟩
end
section
open Go.RowKit
set_option linter.unusedVariables false
set_option linter.unusedSimpArgs false
theorem belowB_drewN {B : Nat} {a w : World} (h : Below B a w) (n : Nat) : Below B a (w.drewN n) := ⟨h.os, h.tape, h.output, h.size, h.block⟩
/-- A row made whole. -/
theorem own_row {w : World} {base g n : Nat} {e : TypeId} {xs : List Value} (h : w.ownsRow base e 1 (.slice (some ⟨g, 0, none⟩) n n) n xs) : w.heap[g]? = some (.cells xs.toArray e (0, 0)) ∧ base ≤ g := by
  obtain ⟨hl, h⟩ := h
  rcases h with ⟨h1, _⟩ | ⟨g', cap, cur, hv, hb, hg, h1, h2, h3, h4⟩
  · simp at h1
  · simp only [Value.slice.injEq, Option.some.injEq, Addr.mk.injEq] at hv
    obtain ⟨⟨rfl, _⟩, _, rfl⟩ := hv
    refine ⟨?_, hb⟩
    have hc : cur = xs.toArray := by
      rw [← h4, List.take_of_length_le (by rw [Array.length_toList, h3]; exact Nat.le_refl _), Array.toArray_toList]
    rw [hg, hc]
theorem ivs_zeros (n : Nat) : ivs (List.replicate n 0) = List.replicate n (Value.int .i64 0) := by simp [ivs]
theorem ivs_set (L : List Nat) (p y : Nat) : (ivs L).toArray.setIfInBounds p (Value.int .i64 ((y : Nat) : Int)) = (ivs (L.set p y)).toArray := by
  simp [ivs, List.map_set]
theorem ivs_cell {w : World} {g : Nat} {t : TypeId} {L : List Nat} (h : w.heap[g]? = some (.cells (ivs L).toArray t (0, 0))) (k : Nat) (hk : k < L.length) : w.cell? ⟨g, k, none⟩ = some (.int .i64 ((L.getD k 0 : Nat) : Int)) :=
  cell_of h k _ (by rw [List.getElem?_toArray, ivs, List.getElem?_map, List.getElem?_eq_getElem hk, List.getD_eq_getElem?_getD, List.getElem?_eq_getElem hk]; rfl)
theorem ivs_sq {w : World} {g c : Nat} {t : TypeId} {L : List Nat} (h : w.heap[g]? = some (.cells (ivs L).toArray t (0, 0))) (hc : L.length ≤ c) (hc2 : c ≤ 9223372036854775807) : Sq w w.heap.size (some ⟨g, 0, none⟩) c (ivs L) :=
  .inr ⟨g, 0, rfl, block_lt h, by simpa using hc, hc2, fun j u hu => by rw [Nat.zero_add]; exact cell_of h j u (by rw [List.getElem?_toArray]; exact hu)⟩
theorem val_zeros (n : Nat) : val (List.replicate n 0) = 0 := by
  induction n with
  | zero => rfl
  | succ n ih => rw [List.replicate_succ, val, ih]
theorem dg_pow (n : Nat) : dg (2 ^ n) = List.replicate (n / 15) 0 ++ [2 ^ (n % 15)] := by
  have hv : val (List.replicate (n / 15) 0 ++ [2 ^ (n % 15)]) = 2 ^ n := by
    rw [val_snoc, val_zeros, Nat.zero_add, List.length_replicate, show (32768 : Nat) = 2 ^ 15 by decide, ← Nat.pow_mul, ← Nat.pow_add, Nat.div_add_mod]
  rw [← hv]
  have h32 : 2 ^ (n % 15) < 32768 := by
    have := Nat.pow_lt_pow_right (a := 2) (by omega) (show n % 15 < 15 by omega)
    exact this
  refine dg_val _ ?_ (fun k hk => ?_)
  · intro x hx
    rcases List.mem_append.1 hx with hx | hx
    · rw [(List.mem_replicate.1 hx).2]; omega
    · simp at hx; omega
  · simp at hk
    subst hk
    have := Nat.two_pow_pos (n % 15)
    simp [List.getD_eq_getElem?_getD]
theorem val_set (L : List Nat) (p y : Nat) (hp : p < L.length) : val (L.set p y) + 32768 ^ p * L.getD p 0 = val L + 32768 ^ p * y := by
  induction L generalizing p with
  | nil => simp at hp
  | cons x l ih =>
    rcases p with _ | p
    · simp [val]; omega
    · have h := ih p (by simpa using hp)
      rw [List.set_cons_succ, val, val, List.getD_cons_succ, Nat.pow_succ]
      have e1 : 32768 ^ p * 32768 * l.getD p 0 = 32768 * (32768 ^ p * l.getD p 0) := by rw [Nat.mul_comm (32768 ^ p) 32768, Nat.mul_assoc]
      have e2 : 32768 ^ p * 32768 * y = 32768 * (32768 ^ p * y) := by rw [Nat.mul_comm (32768 ^ p) 32768, Nat.mul_assoc]
      rw [e1, e2]
      omega
theorem Dgs.set {L : List Nat} (h : Dgs L) (p y : Nat) (hy : y < 32768) : Dgs (L.set p y) := fun x hx => by
  rcases List.mem_or_eq_of_mem_set hx with h1 | h1
  · exact h x h1
  · omega
theorem Dgs.getD {L : List Nat} (h : Dgs L) (p : Nat) : L.getD p 0 < 32768 := by
  by_cases hp : p < L.length
  · rw [List.getD_eq_getElem?_getD, List.getElem?_eq_getElem hp]; exact h _ (List.getElem_mem hp)
  · rw [List.getD_eq_getElem?_getD, List.getElem?_eq_none (by omega)]; decide
/-- One step of a product's row. -/
theorem mul_inner (P v v' l m cy S : Nat) (h : v + P * cy = S) (hs : v' + P * l = v + P * ((l + m + cy) % 32768)) : v' + P * 32768 * ((l + m + cy) / 32768) = S + P * m := by
  have e := Nat.div_add_mod (l + m + cy) 32768
  have e2 : P * (l + m + cy) = P * 32768 * ((l + m + cy) / 32768) + P * ((l + m + cy) % 32768) := by
    conv => lhs; rw [← e]
    rw [Nat.mul_add, Nat.mul_assoc]
  have e3 : P * (l + m + cy) = P * l + P * m + P * cy := by rw [Nat.mul_add, Nat.mul_add]
  omega
theorem mul_bound (l x y cy : Nat) (hl : l < 32768) (hx : x < 32768) (hy : y < 32768) (hc : cy < 32768) : l + x * y + cy < 1073741824 ∧ (l + x * y + cy) / 32768 < 32768 ∧ x * y ≤ 1073676289 := by
  have h : x * y ≤ 32767 * 32767 := Nat.mul_le_mul (by omega) (by omega)
  refine ⟨by omega, ?_, by omega⟩
  rw [Nat.div_lt_iff_lt_mul (by omega)]
  omega
theorem mul_next (a b i k x y : Nat) (hx : x = a / 32768 ^ i % 32768) (hy : y = b / 32768 ^ k % 32768) : (a % 32768 ^ i) * b + 32768 ^ i * x * (b % 32768 ^ k) + 32768 ^ (i + k) * (x * y) = (a % 32768 ^ i) * b + 32768 ^ i * x * (b % 32768 ^ (k + 1)) := by
  rw [mod_next b k, ← hy, Nat.mul_add, Nat.pow_add]
  have e : 32768 ^ i * x * (32768 ^ k * y) = 32768 ^ i * 32768 ^ k * (x * y) := by
    rw [Nat.mul_assoc, Nat.mul_assoc, Nat.mul_left_comm x]
  omega
theorem mul_row (a b i x : Nat) (hx : x = a / 32768 ^ i % 32768) : (a % 32768 ^ i) * b + 32768 ^ i * x * b = (a % 32768 ^ (i + 1)) * b := by
  rw [mod_next a i, ← hx, Nat.add_mul]
set_option maxRecDepth 100000 in
set_option maxHeartbeats 800000 in
theorem Pow_any (n : Nat) (w : World) (hn : n ≤ 1048576) :
    Calls Tryz.prog 52 #[.int .i64 (n : Int)] w (BigR w (2 ^ n)) := by
  obtain ⟨i0, hi, hz0, hz1, hz2⟩ := info_parts infoI64
  obtain ⟨q, hq⟩ : ∃ q, q = n / 15 := ⟨_, rfl⟩
  obtain ⟨r, hr⟩ : ∃ r, r = n % 15 := ⟨_, rfl⟩
  have hqi : (n : Int) / 15 = (q : Int) := by omega
  have hri : (n : Int) % 15 = (r : Int) := by omega
  have hn0 : (0 : Int) ≤ (n : Int) := by omega
  have hqb : q ≤ 1048576 := by omega
  have hrb : r < 15 := by omega
  have hdg : dg (2 ^ n) = List.replicate q 0 ++ [2 ^ r] := by rw [dg_pow, hq, hr]
  have hlen : (dg (2 ^ n)).length = q + 1 := by rw [hdg]; simp
  have HDG := hid hdg; have HLEN := hid hlen
  clear hq hr hdg hlen
  go_enter Tryz.func52, Tryz.ntmps52
  go_wp2_with (at_make; refine wpList_make_full _ rfl _ _ 34 rfl w.heap.size 3 i0 (.int .i64 0) 1 Tryz.underlying34 hi hz0 hz1 _ _ _ _ (q + 1) rfl rfl ?c0 ?c1 ?c2 ?c3 ?c4 ?_)
  case c0 => omega
  case c1 => omega
  case c2 => rw [hz2]; omega
  case c3 => unfold maxLen; omega
  case c4 => exact Nat.le_refl _
  intro w1 hown hg
  obtain ⟨hrow, _⟩ := own_row hown
  have hb1 : Below w.heap.size w w1 := below_of_grown hg (Nat.le_refl _) (fun _ h => by cases h)
  have hcs : (madeCells #[Value.int .i64 0] (q + 1)).toList = ivs (List.replicate q 0 ++ [0]) := by
    rw [show (List.replicate q 0 ++ [0] : List Nat) = List.replicate (q + 1) 0 by rw [List.replicate_succ'], ivs_zeros]
    exact toList_madeCells_one _ _
  rw [hcs] at hrow
  have hset1 : (List.replicate q 0 ++ [0] : List Nat).set q 1 = List.replicate q 0 ++ [1] := by
    rw [List.set_append_right _ _ (by simp)]; simp
  have hv1 : w1.cell? ⟨w.heap.size, q, none⟩ = some (.int .i64 (((List.replicate q 0 ++ [0] : List Nat).getD q 0 : Nat) : Int)) := ivs_cell hrow q (by simp)
  have hf1 : w1.frozen? ⟨w.heap.size, q, none⟩ = false := frozen_of_row _ _ _ _ _ hrow
  have hrow2 := block_set hrow q (.int .i64 ((1 : Nat) : Int))
  rw [ivs_set, hset1, show ((1 : Nat) : Int) = 1 from rfl] at hrow2
  have hqq : (q : Int) < (q : Int) + 1 := by omega
  have hq0 : (0 : Int) ≤ (q : Int) := by omega
  have hqq2 : (q : Int) < ((q + 1 : Nat) : Int) := by omega
  have HR2 := hid hrow2; have HB2 := hid (hb1.setCell (p := ⟨w.heap.size, q, none⟩) (Nat.le_refl _) (.int .i64 1))
  clear hown hg hrow hb1 hcs hset1 hrow2 hi hz0 hz1 hz2
  go_wp2
  clear hv1 hf1
  go_loopg [4] r (fun g i wr => ∃ k : Nat, k + g = r ∧ i = .int .i64 (k : Int) ∧ wr.heap[w.heap.size]? = some (.cells (ivs (List.replicate q 0 ++ [2 ^ k])).toArray 3 (0, 0)) ∧ Below w.heap.size w wr)
  case atStart => exact ⟨0, by omega, rfl, HR2.out, HB2.out⟩
  case round =>
    clear HR2 HB2
    obtain ⟨k, hk, rfl, hrow, hb⟩ := hrel
    have HK := hid hk; have HB := hid hb; have HROW := hid hrow
    clear hk hb
    by_cases hlt : k < r
    · have hki : (k : Int) < (r : Int) := by omega
      have hk0 : (0 : Int) ≤ (k : Int) := by omega
      have hk15 : (k : Int) ≤ 15 := by omega
      have hgd : (List.replicate q 0 ++ [2 ^ k] : List Nat).getD q 0 = 2 ^ k := by simp [List.getD_eq_getElem?_getD]
      have hcell := ivs_cell hrow q (by simp)
      rw [hgd] at hcell
      have hfz : wr.frozen? ⟨w.heap.size, q, none⟩ = false := frozen_of_row _ _ _ _ _ hrow
      have h2k : 2 ^ k < 32768 := Nat.pow_lt_pow_right (a := 2) (by omega) (show k < 15 by omega)
      obtain ⟨z, hz⟩ : ∃ z, z = 2 ^ k := ⟨_, rfl⟩
      have hz2 : 2 * z = 2 ^ (k + 1) := by rw [hz, Nat.pow_succ]; omega
      rw [← hz] at hcell h2k
      have hset : (List.replicate q 0 ++ [2 ^ k] : List Nat).set q (2 * z) = List.replicate q 0 ++ [2 ^ (k + 1)] := by
        rw [List.set_append_right _ _ (by simp), hz2]; simp
      have hrow2 := block_set hrow q (.int .i64 ((2 * z : Nat) : Int))
      rw [ivs_set, hset, show ((2 * z : Nat) : Int) = 2 * (z : Int) by omega] at hrow2
      have hzi : (z : Int) < 32768 := by omega
      have HR2 := hid hrow2
      clear hrow hgd hz hz2 hset hrow2
      go_wp2
      have hk := HK.out
      go_roundg (r - k - 1)
      case measure => omega
      case rel => exact ⟨k + 1, by omega, by go_num, HR2.out, HB.out.setCell (Nat.le_refl _) _⟩
    · obtain rfl : k = r := by have := HK.out; omega
      have hs := ivs_sq (c := q + 1) hrow (by simp) (by omega)
      have hki : ¬ (k : Int) < (k : Int) := by omega
      have HS := hid hs
      clear hrow hs
      go_wp2
      go_ret
      exact ⟨some ⟨w.heap.size, 0, none⟩, q + 1, by rw [HLEN.out]; rfl, by rw [HDG.out]; exact HS.out, HB.out⟩
set_option maxRecDepth 100000 in
set_option maxHeartbeats 1600000 in
theorem Mul_any (a b : Nat) (A A' : Option Addr) (c c' : Nat) (w : World) (hS : Sq w w.heap.size A c (ivs (dg a))) (hS' : Sq w w.heap.size A' c' (ivs (dg b))) (hl : (dg a).length ≤ 1073741824) (hl' : (dg b).length ≤ 1073741824) :
    Calls Tryz.prog 20 #[.slice A (dg a).length c, .slice A' (dg b).length c'] w (BigR w (a * b)) := by
  obtain ⟨i0, hi, hz0, hz1, hz2⟩ := info_parts infoI64
  obtain ⟨la, hla⟩ : ∃ l, l = (dg a).length := ⟨_, rfl⟩
  obtain ⟨lb, hlb⟩ : ∃ l, l = (dg b).length := ⟨_, rfl⟩
  have HS := hid hS; have HS' := hid hS'; have HLA := hid hla; have HLB := hid hlb
  rw [← hla] at hl ⊢
  rw [← hlb] at hl' ⊢
  clear hS hS' hla hlb
  go_enter Tryz.func20, Tryz.ntmps20
  go_wp2_with (at_make; refine wpList_make_full _ rfl _ _ 34 rfl w.heap.size 3 i0 (.int .i64 0) 1 Tryz.underlying34 hi hz0 hz1 _ _ _ _ (la + lb + 1) rfl rfl ?c0 ?c1 ?c2 ?c3 ?c4 ?_)
  case c0 => omega
  case c1 => omega
  case c2 => rw [hz2]; omega
  case c3 => unfold maxLen; omega
  case c4 => exact Nat.le_refl _
  intro w1 hown hg
  obtain ⟨hrow, _⟩ := own_row hown
  have hb1 : Below w.heap.size w w1 := below_of_grown hg (Nat.le_refl _) (fun _ h => by cases h)
  have hcs : (madeCells #[Value.int .i64 0] (la + lb + 1)).toList = ivs (List.replicate (la + lb + 1) 0) := by
    rw [ivs_zeros]; exact toList_madeCells_one _ _
  rw [hcs] at hrow
  have HROW := hid hrow; have HB := hid hb1
  clear hown hg hrow hb1 hcs hi hz0 hz1 hz2
  go_wp2
  go_loopg [6] la (fun g c wr => ∃ (i : Nat) (L : List Nat), i + g = la ∧ c = .int .i64 (i : Int) ∧ wr.heap[w.heap.size]? = some (.cells (ivs L).toArray 3 (0, 0)) ∧ L.length = la + lb + 1 ∧ Dgs L ∧ val L = (a % 32768 ^ i) * b ∧ (∀ j, i + lb ≤ j → L.getD j 0 = 0) ∧ Below w.heap.size w wr)
  case atStart =>
    refine ⟨0, List.replicate (la + lb + 1) 0, by omega, rfl, HROW.out, by simp, ?_, by rw [val_zeros, Nat.pow_zero, Nat.mod_one, Nat.zero_mul], fun j _ => ?_, HB.out⟩
    · intro x hx; rw [(List.mem_replicate.1 hx).2]; omega
    · rw [List.getD_eq_getElem?_getD, List.getElem?_replicate]; split <;> rfl
  case round =>
    clear HROW HB
    obtain ⟨i, L, hi, rfl, hrow, hL, hD, hv, hz, hb⟩ := hrel
    obtain ⟨wo, rfl⟩ : ∃ wo : World, wo = wr := ⟨_, rfl⟩
    have HI := hid hi; have HROW := hid hrow; have HL := hid hL; have HD := hid hD; have HV := hid hv; have HZ := hid hz; have HB := hid hb
    have hila : i ≤ la := by omega
    clear hi hrow hL hD hv hz hb
    by_cases hlt : i < la
    · have hii : (i : Int) < (la : Int) := by omega
      have hi0 : (0 : Int) ≤ (i : Int) := by omega
      obtain ⟨ba, oa, hAe, hba, hca⟩ := HS.out.dig (k := i) (by rw [← HLA.out]; exact hlt)
      rw [dg_getD] at hca
      obtain ⟨x, hx⟩ : ∃ x, x = a / 32768 ^ i % 32768 := ⟨_, rfl⟩
      rw [← hx] at hca
      have hxl : x < 32768 := by rw [hx]; exact Nat.mod_lt _ (by omega)
      have HX := hid hx; have HCA := hid hca
      subst hAe
      clear hx hca
      go_wp2
      go_loopg [7, 8] lb (fun g cy c wr => ∃ (k q : Nat) (L : List Nat), k + g = lb ∧ c = .int .i64 (k : Int) ∧ cy = .int .i64 (q : Int) ∧ q < 32768 ∧ wr.heap[w.heap.size]? = some (.cells (ivs L).toArray 3 (0, 0)) ∧ L.length = la + lb + 1 ∧ Dgs L ∧
        val L + 32768 ^ (i + k) * q = (a % 32768 ^ i) * b + 32768 ^ i * x * (b % 32768 ^ k) ∧ (∀ j, i + lb ≤ j → L.getD j 0 = 0) ∧ Below w.heap.size w wr)
      case atStart => exact ⟨0, 0, L, by omega, rfl, rfl, by omega, HROW.out, HL.out, HD.out, by rw [HV.out, Nat.pow_zero, Nat.mod_one]; simp, HZ.out, HB.out⟩
      case round =>
        clear HROW HL HD HV HZ HB
        obtain ⟨k, q, L, hk, rfl, rfl, hq, hrow, hL, hD, hv, hz, hb⟩ := hrel
        have HK := hid hk; have HROW := hid hrow; have HL := hid hL; have HD := hid hD; have HV := hid hv; have HZ := hid hz; have HB := hid hb
        have hklb : k ≤ lb := by omega
        clear hk hL hD hv hz hb
        by_cases hlt2 : k < lb
        · have hki : (k : Int) < (lb : Int) := by omega
          have hk0 : (0 : Int) ≤ (k : Int) := by omega
          obtain ⟨bb, ob, hBe, hbb, hcb⟩ := HS'.out.dig (k := k) (by rw [← HLB.out]; exact hlt2)
          rw [dg_getD] at hcb
          obtain ⟨y, hy⟩ : ∃ y, y = b / 32768 ^ k % 32768 := ⟨_, rfl⟩
          rw [← hy] at hcb
          have hyl : y < 32768 := by rw [hy]; exact Nat.mod_lt _ (by omega)
          have hca2 : wr.cell? ⟨ba, oa + i, none⟩ = some (.int .i64 (x : Int)) := (HB.out.cell (p := ⟨ba, oa + i, none⟩) hba).trans HCA.out
          have hcb2 : wr.cell? ⟨bb, ob + k, none⟩ = some (.int .i64 (y : Int)) := (HB.out.cell (p := ⟨bb, ob + k, none⟩) hbb).trans hcb
          have hco := ivs_cell hrow (i + k) (by rw [HL.out]; omega)
          have hfz : wr.frozen? ⟨w.heap.size, i + k, none⟩ = false := frozen_of_row _ _ _ _ _ hrow
          obtain ⟨l, hll⟩ : ∃ l, l = L.getD (i + k) 0 := ⟨_, rfl⟩
          have hl32 : l < 32768 := by rw [hll]; exact HD.out.getD _
          rw [← hll] at hco
          have hbd := mul_bound l x y q hl32 hxl hyl hq
          obtain ⟨m, hm⟩ : ∃ m, m = x * y := ⟨_, rfl⟩
          rw [← hm] at hbd
          have hvs := val_set L (i + k) ((l + m + q) % 32768) (by rw [HL.out]; omega)
          rw [← hll] at hvs
          have hin := mul_inner (32768 ^ (i + k)) (val L) (val (L.set (i + k) ((l + m + q) % 32768))) l m q _ HV.out hvs
          rw [hm, mul_next a b i k x y HX.out hy, ← hm] at hin
          have hrow2 := block_set hrow (i + k) (.int .i64 (((l + m + q) % 32768 : Nat) : Int))
          rw [ivs_set] at hrow2
          have hz2 : ∀ j, i + lb ≤ j → (L.set (i + k) ((l + m + q) % 32768)).getD j 0 = 0 := fun j hj => by
            rw [List.getD_eq_getElem?_getD, List.getElem?_set_ne (by omega), ← List.getD_eq_getElem?_getD]; exact HZ.out j hj
          have hmi : (x : Int) * (y : Int) = (m : Int) := by rw [hm]; simp
          have hmb : (m : Int) ≤ 1073676289 := by omega
          have hik0 : (0 : Int) ≤ (i : Int) + (k : Int) := by omega
          have hikw : IntKind.i64.wrap ((i : Int) + (k : Int)) = (i : Int) + (k : Int) := IntWalk.i64_in _ (by omega)
          have hikn : ((i : Int) + (k : Int)).toNat = i + k := by omega
          have hmw : IntKind.i64.wrap (m : Int) = (m : Int) := IntWalk.i64_in _ (by omega)
          have hlmw : IntKind.i64.wrap ((l : Int) + (m : Int)) = (l : Int) + (m : Int) := IntWalk.i64_in _ (by omega)
          have hlmqw : IntKind.i64.wrap ((l : Int) + (m : Int) + (q : Int)) = (l : Int) + (m : Int) + (q : Int) := IntWalk.i64_in _ (by omega)
          have hikl : (i : Int) + (k : Int) < ((la + lb + 1 : Nat) : Int) := by omega
          have hikl2 : i + k < la + lb + 1 := by omega
          have hs0 : (0 : Int) ≤ (l : Int) + (m : Int) + (q : Int) := by omega
          have hsb : (l : Int) + (m : Int) + (q : Int) < 1073741824 := by omega
          have hmod : ((l : Int) + (m : Int) + (q : Int)) % 32768 = (((l + m + q) % 32768 : Nat) : Int) := by omega
          have hdiv : ((l : Int) + (m : Int) + (q : Int)) / 32768 = (((l + m + q) / 32768 : Nat) : Int) := by omega
          have HR2 := hid hrow2; have HIN := hid hin; have HZ2 := hid hz2; have HBD := hid hbd.2.1; have HMOD := hid hmod; have HDIV := hid hdiv
          subst hBe
          clear hrow hll hbd hm hvs hin hrow2 hz2 hy hcb hmod hdiv
          go_wp2
          go_quiet (fail)
          clear hikw hmw hlmw hlmqw
          go_wp2
          have hr2 := HR2.out
          rw [← HMOD.out] at hr2
          have hk := HK.out
          go_roundg (lb - k - 1)
          case measure => omega
          case rel =>
            refine ⟨k + 1, (l + m + q) / 32768, _, by omega, by go_num, by rw [HDIV.out], HBD.out, ?_, by rw [List.length_set]; exact HL.out, HD.out.set _ _ (Nat.mod_lt _ (by omega)), ?_, HZ2.out, (belowB_drewN HB.out nq).setCell (Nat.le_refl _) _⟩
            · exact hr2
            · rw [← Nat.add_assoc, Nat.pow_succ]; exact HIN.out
        · obtain rfl : k = lb := by omega
          have hbk : b % 32768 ^ k = b := Nat.mod_eq_of_lt ((dg_length_le b k).1 (by rw [HLB.out]; exact Nat.le_refl _))
          have hv := HV.out
          rw [hbk] at hv
          have hco := ivs_cell hrow (i + k) (by rw [HL.out]; omega)
          rw [HZ.out (i + k) (Nat.le_refl _)] at hco
          have hfz : wr.frozen? ⟨w.heap.size, i + k, none⟩ = false := frozen_of_row _ _ _ _ _ hrow
          have hvs := val_set L (i + k) q (by rw [HL.out]; omega)
          rw [HZ.out (i + k) (Nat.le_refl _), Nat.mul_zero, Nat.add_zero, hv, mul_row a b i x HX.out] at hvs
          have hrow2 := block_set hrow (i + k) (.int .i64 ((q : Nat) : Int))
          rw [ivs_set] at hrow2
          have hz2 : ∀ j, i + 1 + k ≤ j → (L.set (i + k) q).getD j 0 = 0 := fun j hj => by
            rw [List.getD_eq_getElem?_getD, List.getElem?_set_ne (by omega), ← List.getD_eq_getElem?_getD]; exact HZ.out j (by omega)
          have hki : ¬ (k : Int) < (k : Int) := by omega
          have hik0 : (0 : Int) ≤ (i : Int) + (k : Int) := by omega
          have hikn : ((i : Int) + (k : Int)).toNat = i + k := by omega
          have hikl : (i : Int) + (k : Int) < ((la + k + 1 : Nat) : Int) := by omega
          have hikl2 : i + k < la + k + 1 := by omega
          have hq0 : (0 : Int) + (q : Int) = (q : Int) := by omega
          have HVS := hid hvs; have HR2 := hid hrow2; have HZ2 := hid hz2
          clear hrow hbk hv hvs hrow2 hz2
          go_wp2
          have hi := HI.out
          go_roundg (la - i - 1)
          case measure => omega
          case rel => exact ⟨i + 1, _, by omega, by go_num, HR2.out, by rw [List.length_set]; exact HL.out, HD.out.set _ _ hq, HVS.out, HZ2.out, HB.out.setCell (Nat.le_refl _) _⟩
    · obtain rfl : i = la := by omega
      have hai : a % 32768 ^ i = a := Nat.mod_eq_of_lt ((dg_length_le a i).1 (by rw [HLA.out]; exact Nat.le_refl _))
      have hv := HV.out
      rw [hai] at hv
      have hs := ivs_sq (c := i + lb + 1) HROW.out (by rw [HL.out]; exact Nat.le_refl _) (by omega)
      have HT := hid (trim_any _ L (i + lb + 1) _ wo hs HD.out (by rw [HL.out]; omega))
      rw [HL.out, hv] at HT
      have hki : ¬ (i : Int) < (i : Int) := by omega
      clear hai hv hs
      go_wp2_with fail
      refine HT.out.mono ?_
      rintro e w' ⟨rfl, hS6, rfl⟩
      have HS6 := hid hS6
      clear hS6
      go_wp2
      go_ret
      exact ⟨_, _, rfl, HS6.out, HB.out⟩
end
end Go.Proofs.YtheamlhhfkaknaaGreatDoor
end
section
namespace Go.Proofs.YtheamlhhfkaknaaGreatDoor
open Go.RowKit
set_option linter.unusedVariables false
set_option linter.unusedSimpArgs false
theorem digit_l (a : Nat) (A : Option Addr) (c B k x : Nat) (W : World) (hS : Sq W B A c (ivs (dg a))) (hk : k ≤ 1099511627776) (hx : x = a / 32768 ^ k % 32768) (n : Nat) :
    Calls Tryz.prog 46 #[.slice A (dg a).length c, .int .i64 (k : Int)] (W.drewN n) fun e w' => e = .returned (.int .i64 (x : Int)) ∧ ∃ m, w' = W.drewN m := by
  have h := digit_any A (dg a) c B k (W.drewN n) (hS.keep fun _ _ _ => rfl) hk
  rw [dg_getD, ← hx] at h
  exact h.mono fun _ _ h => ⟨h.1, n, h.2.symm⟩
set_option maxHeartbeats 1600000 in
theorem Sub_any (a b : Nat) (A A' : Option Addr) (c c' : Nat) (w : World) (hS : Sq w w.heap.size A c (ivs (dg a))) (hS' : Sq w w.heap.size A' c' (ivs (dg b))) (hl : (dg a).length ≤ 1073741824) (hba : b ≤ a) :
    Calls Tryz.prog 58 #[.slice A (dg a).length c, .slice A' (dg b).length c'] w (BigR w (a - b)) := by
  have HS := hid hS; have HS' := hid hS'; have HBA := hid hba
  clear hS hS' hba
  go_enter Tryz.func58, Tryz.ntmps58
  go_wp2
  go_loopg [5, 6, 7] (dg a).length (fun g v cy i wr => ∃ (k q : Nat) (xs : List Nat), k + g = (dg a).length ∧ i = .int .i64 (k : Int) ∧ cy = .int .i64 (q : Int) ∧ OwnI wr w.heap.size v xs ∧ xs.length = k ∧ Dgs xs ∧ val xs + b % 32768 ^ k = a % 32768 ^ k + 32768 ^ k * q ∧ q ≤ 1 ∧ Below w.heap.size w wr)
  case atStart => exact ⟨0, 0, [], by omega, rfl, rfl, owni_nil _ _, rfl, (by intro x hx; cases hx), by simp [val, Nat.mod_one], by omega, Below.refl _ _⟩
  case round =>
    obtain ⟨k, q, xs, hg, rfl, rfl, hown, hxl, hD, hv, hq, hb⟩ := hrel
    obtain ⟨wq, rfl⟩ : ∃ wq : World, wq = wr := ⟨_, rfl⟩
    have HX := hid hxl; have HDG := hid hD; have HV := hid hv; have HB := hid hb; have HG := hid hg
    obtain ⟨A5, c5, rfl, hS5⟩ := own_sl hown
    have hsz : w.heap.size ≤ wq.heap.size := HB.out.size
    rw [hxl]
    have hO2 : wq.ownsRow w.heap.size 3 1 (.slice A5 k c5) k (ivs xs) := by
      have h := hown; unfold OwnI at h; rwa [hxl] at h
    have HO2 := hid hO2; have HS5 := hid hS5.sq
    have hka : k ≤ (dg a).length := by omega
    clear hown hxl hD hv hb hg hS5 hO2
    by_cases hgo : k < (dg a).length
    · have hki : (k : Int) < ((dg a).length : Int) := by omega
      have hk0 : (0 : Int) ≤ (k : Int) := by omega
      obtain ⟨x, hx⟩ : ∃ x, x = a / 32768 ^ k % 32768 := ⟨_, rfl⟩
      obtain ⟨y, hy⟩ : ∃ y, y = b / 32768 ^ k % 32768 := ⟨_, rfl⟩
      have HDB := hid (digit_l b A' c' w.heap.size k y wq (HS'.out.below HB.out) (by omega) hy)
      obtain ⟨bA, oA, rfl, hbA, hcx⟩ := (HS.out.below HB.out).dig hgo
      rw [dg_getD, ← hx] at hcx
      have hrd := sub_round a b k (val xs) q HV.out hq
      simp only [← hx, ← hy] at hrd
      have hx1 : x < 32768 := by rw [hx]; exact Nat.mod_lt _ (by omega)
      have hy1 : y < 32768 := by rw [hy]; exact Nat.mod_lt _ (by omega)
      obtain ⟨d1, hd1⟩ : ∃ d : Int, d = (x : Int) - (y : Int) := ⟨_, rfl⟩
      obtain ⟨d2, hd2⟩ : ∃ d : Int, d = d1 - (q : Int) := ⟨_, rfl⟩
      have f1 : IntKind.i64.wrap ((x : Int) - (y : Int)) = d1 := by rw [hd1]; exact IntWalk.i64_in _ (by omega)
      have f2 : IntKind.i64.wrap (d1 - (q : Int)) = d2 := by rw [hd2]; exact IntWalk.i64_in _ (by omega)
      have HRD := hid hrd
      clear hx hy hrd
      by_cases hlt : x < y + q
      · have hneg : d2 < 0 := by omega
        obtain ⟨r, hr⟩ : ∃ r : Nat, r = x + 32768 - y - q := ⟨_, rfl⟩
        have f3 : IntKind.i64.wrap (d2 + 32768) = (r : Int) := by rw [show d2 + 32768 = (r : Int) by omega]; exact IntWalk.i64_in _ (by omega)
        have f4 : d2 + 32768 = (r : Int) := by omega
        have hrl : r < 32768 := by omega
        have HR := hid hr
        clear f4
        have HRV : Hid (val (xs ++ [r]) + b % 32768 ^ (k + 1) = a % 32768 ^ (k + 1) + 32768 ^ (k + 1) * 1) := hid (by
          rw [val_snoc, HX.out, hr]; exact HRD.out.1 hlt)
        clear hd1 hd2 hr HRD
        go_wp2
        go_quiet ((go_at_call 46; with_reducible exact HDB.out _))
        obtain ⟨we, hwe⟩ : ∃ we : World, we = wq.drewN nq := ⟨_, rfl⟩
        have hBE : Below w.heap.size w we := by rw [hwe]; exact belowB_drewN HB.out nq
        have hOE : we.ownsRow w.heap.size 3 1 (.slice A5 k c5) k (ivs xs) := by rw [hwe]; exact HO2.out
        rw [← hwe]
        have HO3 := hid (World.ownsRow.alloc hOE (.cells #[.int .i64 (r : Int)] 3))
        have HBE := hid hBE
        clear hwe hBE hOE hcx f1 f2 HDB
        go_wp2_with (at_builtin; refine wpList_append_lie rfl (.tmp 29) (.tmp 31) 34 rfl w.heap.size 3 (.int .i64 0) 8 Tryz.underlying34 infoI64 rfl rfl HO3.out rfl rfl (Lie.new1 _ _ _) (by intro u hu; simp at hu; subst hu; rfl) (by rw [List.length_singleton]; unfold maxLen; omega) (by rw [List.length_singleton]; omega) (by have := HBE.out.size; simp; omega) ?_)
        intro v2 w2 hown2 hg2 _
        have hO3 : OwnI w2 w.heap.size v2 (xs ++ [r]) := owni_snoc hown2 (by rw [HX.out]) rfl
        have hB2 : Below w.heap.size w w2 := (HBE.out.alloc HBE.out.size _).grown hg2 (by have := HBE.out.size; simp; omega) (fun q h => own_lt HO3.out q h)
        have HO4 := hid hO3; have HB2 := hid hB2
        clear hown2 hg2 hO3 hB2 HO3
        go_wp2
        have hg := HG.out
        go_roundg ((dg a).length - k - 1)
        case measure => omega
        case rel => exact ⟨k + 1, 1, _, by omega, by go_num, rfl, HO4.out, by rw [List.length_append, HX.out]; rfl, HDG.out.snoc hrl, HRV.out, by omega, HB2.out⟩
      · obtain ⟨r, hr⟩ : ∃ r : Nat, r = x - y - q := ⟨_, rfl⟩
        have hneg : ¬ (r : Int) < 0 := by omega
        have hd2r : d2 = (r : Int) := by omega
        rw [hd2r] at f2
        clear hd2 hd2r
        have hrl : r < 32768 := by omega
        have HRV : Hid (val (xs ++ [r]) + b % 32768 ^ (k + 1) = a % 32768 ^ (k + 1) + 32768 ^ (k + 1) * 0) := hid (by
          rw [val_snoc, HX.out, hr]; exact HRD.out.2 (by omega))
        clear hd1 hr HRD
        go_wp2
        go_quiet ((go_at_call 46; with_reducible exact HDB.out _))
        obtain ⟨we, hwe⟩ : ∃ we : World, we = wq.drewN nq := ⟨_, rfl⟩
        have hBE : Below w.heap.size w we := by rw [hwe]; exact belowB_drewN HB.out nq
        have hOE : we.ownsRow w.heap.size 3 1 (.slice A5 k c5) k (ivs xs) := by rw [hwe]; exact HO2.out
        rw [← hwe]
        have HO3 := hid (World.ownsRow.alloc hOE (.cells #[.int .i64 (r : Int)] 3))
        have HBE := hid hBE
        clear hwe hBE hOE hcx f1 f2 HDB
        go_wp2_with (at_builtin; refine wpList_append_lie rfl (.tmp 29) (.tmp 31) 34 rfl w.heap.size 3 (.int .i64 0) 8 Tryz.underlying34 infoI64 rfl rfl HO3.out rfl rfl (Lie.new1 _ _ _) (by intro u hu; simp at hu; subst hu; rfl) (by rw [List.length_singleton]; unfold maxLen; omega) (by rw [List.length_singleton]; omega) (by have := HBE.out.size; simp; omega) ?_)
        intro v2 w2 hown2 hg2 _
        have hO3 : OwnI w2 w.heap.size v2 (xs ++ [r]) := owni_snoc hown2 (by rw [HX.out]) rfl
        have hB2 : Below w.heap.size w w2 := (HBE.out.alloc HBE.out.size _).grown hg2 (by have := HBE.out.size; simp; omega) (fun q h => own_lt HO3.out q h)
        have HO4 := hid hO3; have HB2 := hid hB2
        clear hown2 hg2 hO3 hB2 HO3
        go_wp2
        have hg := HG.out
        go_roundg ((dg a).length - k - 1)
        case measure => omega
        case rel => exact ⟨k + 1, 0, _, by omega, by go_num, rfl, HO4.out, by rw [List.length_append, HX.out]; rfl, HDG.out.snoc hrl, HRV.out, by omega, HB2.out⟩
    · obtain rfl : k = (dg a).length := by omega
      have hki : ¬ ((dg a).length : Int) < ((dg a).length : Int) := by omega
      have hval : val xs = a - b := sub_end a b _ _ q HV.out HBA.out (Nat.le_refl _) (by have h := val_lt xs HDG.out; rw [HX.out] at h; exact h)
      have HT := hid (trim_any A5 xs c5 wq.heap.size wq HS5.out HDG.out (by rw [HX.out]; omega))
      rw [hval, HX.out] at HT
      clear HO2 HS5
      go_wp2_with fail
      refine HT.out.mono ?_
      rintro e w' ⟨rfl, hS, rfl⟩
      have HF := hid hS
      clear hS HT
      go_wp2
      go_ret
      exact ⟨A5, c5, rfl, HF.out, HB.out⟩
set_option maxHeartbeats 800000 in
/-- The lowest 64 bits of a number that has no more. -/
theorem Low_any (N : Nat) (A : Option Addr) (c B : Nat) (w : World) (hS : Sq w B A c (ivs (dg N))) (hN : N < 18446744073709551616) :
    Calls Tryz.prog 42 #[.slice A (dg N).length c] w fun e w' => e = .returned (.int .u64 (N : Int)) ∧ w = w' := by
  have HS := hid hS; have HN := hid hN
  have h5 : N / 32768 ^ 5 = 0 := Nat.div_eq_of_lt (Nat.lt_trans hN (by decide))
  have H5 := hid h5
  clear hS hN h5
  go_enter Tryz.func42, Tryz.ntmps42
  go_wp2
  go_loopg [3, 4] 5 (fun g n i wr => ∃ k m : Nat, g = k ∧ i = .int .i64 ((k : Int) - 1) ∧ n = .int .u64 (m : Int) ∧ m = N / 32768 ^ k ∧ k ≤ 5 ∧ wr = w)
  case atStart => exact ⟨5, 0, rfl, rfl, rfl, H5.out.symm, by omega, rfl⟩
  case round =>
    obtain ⟨k, m, rfl, rfl, rfl, hm, hk, rfl⟩ := hrel
    have HM := hid hm
    clear hm
    rcases gk with _ | i
    · have h0 : ¬ (0 : Int) ≤ ((0 : Nat) : Int) - 1 := by omega
      have hmn : m = N := by rw [HM.out]; simp
      subst hmn
      clear HM
      go_wp2
      go_ret
      exact ⟨rfl, rfl⟩
    · have e1 : ((i + 1 : Nat) : Int) - 1 = (i : Int) := by omega
      rw [e1]
      have h0 : (0 : Int) ≤ (i : Int) := by omega
      obtain ⟨x, hx⟩ : ∃ x, x = N / 32768 ^ i % 32768 := ⟨_, rfl⟩
      have hD := digit_any A (dg N) c B i wr HS.out (by omega)
      rw [dg_getD, ← hx] at hD
      have hx1 : x < 32768 := by rw [hx]; exact Nat.mod_lt _ (by omega)
      have hn := div_next N i
      rw [← hx, ← HM.out] at hn
      have hle : N / 32768 ^ i ≤ N := Nat.div_le_self _ _
      have hlt := HN.out
      obtain ⟨z, hz⟩ : ∃ z, z = m * 32768 := ⟨_, rfl⟩
      obtain ⟨r, hr⟩ : ∃ r, r = z + x := ⟨_, rfl⟩
      have f1 : IntKind.u64.wrap ((m : Int) * 32768) = (z : Int) := by rw [IntKind.wrap_u64]; omega
      have f2 : IntKind.u64.wrap (x : Int) = (x : Int) := by rw [IntKind.wrap_u64]; omega
      have f3 : IntKind.u64.wrap ((z : Int) + (x : Int)) = (r : Int) := by rw [IntKind.wrap_u64]; omega
      have hnext : r = N / 32768 ^ i := by omega
      have HD := hid hD; have HNX := hid hnext
      clear hx hD hn hle hlt hz hr hnext
      go_wp2_with fail
      refine HD.out.mono ?_
      rintro e w' ⟨rfl, rfl⟩
      go_wp2
      go_roundg i
      case measure => omega
      case rel => exact ⟨i, r, rfl, rfl, rfl, HNX.out, by omega, rfl⟩
end Go.Proofs.YtheamlhhfkaknaaGreatDoor
end
section
namespace Go.Proofs.YtheamlhhfkaknaaGreatDoor
open Go.RowKit
set_option linter.unusedVariables false
set_option linter.unusedSimpArgs false
theorem val_digits (N : Nat) (L : List Nat) (h : ∀ j, j < L.length → L.getD j 0 = N / 32768 ^ j % 32768) (k : Nat) (hk : k ≤ L.length) : val (L.take k) = N % 32768 ^ k := by
  induction k with
  | zero => simp [val, Nat.mod_one]
  | succ k ih =>
    have hlt : k < L.length := by omega
    have hg : L[k] = N / 32768 ^ k % 32768 := by
      have := h k hlt
      rw [List.getD_eq_getElem?_getD, List.getElem?_eq_getElem hlt] at this; exact this
    rw [List.take_succ_eq_append_getElem hlt, val_snoc, ih (by omega), hg, List.length_take, Nat.min_eq_left (by omega), ← mod_next]
theorem dgs_cons {x : Nat} {l : List Nat} (hx : x < 32768) (h : Dgs l) : Dgs (x :: l) := fun y hy => by
  rcases List.mem_cons.1 hy with rfl | hy
  · exact hx
  · exact h y hy
/-- One step of a division: the digit and what is left. -/
theorem div_step (a b i : Nat) (hb : 0 < b) : let R := a / 32768 ^ i % 32768 + 32768 * ((a / 32768 ^ (i + 1)) % b)
    R / b = a / b / 32768 ^ i % 32768 ∧ R % b = (a / 32768 ^ i) % b ∧ R / b < 32768 := by
  intro R
  obtain ⟨T, hT⟩ : ∃ T, T = a / 32768 ^ (i + 1) := ⟨_, rfl⟩
  have hd := div_next a i
  have hx : a / 32768 ^ i % 32768 < 32768 := Nat.mod_lt _ (by omega)
  rw [← hT] at hd
  have hR : R = a / 32768 ^ i % 32768 + 32768 * (T % b) := by rw [hT]
  generalize a / 32768 ^ i % 32768 = x at hd hx hR
  have e : a / 32768 ^ i = R + b * (32768 * (T / b)) := by
    have hq := Nat.div_add_mod T b
    have h1 : b * (32768 * (T / b)) = 32768 * (b * (T / b)) := Nat.mul_left_comm _ _ _
    omega
  have hlt : R / b < 32768 := by
    rw [Nat.div_lt_iff_lt_mul hb]
    have := Nat.mod_lt T hb
    have h2 : 32768 * (T % b) + 32768 ≤ 32768 * b := by omega
    omega
  refine ⟨?_, ?_, hlt⟩
  · rw [Nat.div_div_eq_div_mul, Nat.mul_comm b, ← Nat.div_div_eq_div_mul, e, Nat.add_mul_div_left _ _ hb, Nat.add_mul_mod_self_left, Nat.mod_eq_of_lt hlt]
  · rw [e, Nat.add_mul_mod_self_left]
set_option maxRecDepth 100000 in
set_option maxHeartbeats 1600000 in
theorem halves_loop {Q : Exit → Act → World → Prop} (R b : Nat) (A' : Option Addr) (c' : Nat) (A7 : Option Addr) (c7 : Nat) (w0 : World) (t0 t2 t3 t4 t5 t6 t8 t11 t12 t13 t14 t15 t16 t17 t18 t19 t20 t21 t22 t23 t24 t25 t26 t27 t28 t29 t30 t31 t32 t33 t34 t35 t36 t37 t38 t39 t40 t41 t42 t43 t44 t45 t46 t47 t48 t49 t50 t51 t52 t53 t54 t55 t56 t57 t58 t59 t60 t61 : Value)
    (hS' : Sq w0 w0.heap.size A' c' (ivs (dg b))) (hS7 : Sq w0 w0.heap.size A7 c7 (ivs (dg R))) (hl' : (dg b).length ≤ 1048576) (hl7 : (dg R).length ≤ 1099511627776) (hb0 : 0 < b) (hR : R / b < 32768)
    (hexit : ∀ (w' : World) (u10 u11 u30 u31 u32 u33 u34 u35 u36 u37 u38 u39 u40 u41 u42 u43 u44 u45 u46 u47 : Value), Below w0.heap.size w0 w' → Q (.exit 2) ⟨(t0 :: (.slice A' (dg b).length c') :: t2 :: t3 :: t4 :: t5 :: t6 :: (.slice A7 (dg R).length c7) :: t8 :: (.int .i64 ((R / b : Nat) : Int)) :: u10 :: u11 :: t12 :: t13 :: t14 :: t15 :: t16 :: t17 :: t18 :: t19 :: t20 :: t21 :: t22 :: t23 :: t24 :: t25 :: t26 :: t27 :: t28 :: t29 :: u30 :: u31 :: u32 :: u33 :: u34 :: u35 :: u36 :: u37 :: u38 :: u39 :: u40 :: u41 :: u42 :: u43 :: u44 :: u45 :: u46 :: u47 :: t48 :: t49 :: t50 :: t51 :: t52 :: t53 :: t54 :: t55 :: t56 :: t57 :: t58 :: t59 :: t60 :: t61 :: []).toArray, []⟩ w') :
    Code.wp Tryz.prog (Code.loop (loopN Tryz.f32 1)) Q ⟨(t0 :: (.slice A' (dg b).length c') :: t2 :: t3 :: t4 :: t5 :: t6 :: (.slice A7 (dg R).length c7) :: t8 :: (.int .i64 0) :: (.int .i64 32767) :: t11 :: t12 :: t13 :: t14 :: t15 :: t16 :: t17 :: t18 :: t19 :: t20 :: t21 :: t22 :: t23 :: t24 :: t25 :: t26 :: t27 :: t28 :: t29 :: t30 :: t31 :: t32 :: t33 :: t34 :: t35 :: t36 :: t37 :: t38 :: t39 :: t40 :: t41 :: t42 :: t43 :: t44 :: t45 :: t46 :: t47 :: t48 :: t49 :: t50 :: t51 :: t52 :: t53 :: t54 :: t55 :: t56 :: t57 :: t58 :: t59 :: t60 :: t61 :: []).toArray, []⟩ w0 := by
  conv => arg 2; arg 1; whnf
  have HS' := hid hS'; have HS7 := hid hS7
  have hR2 : R < 32768 * b := (Nat.div_lt_iff_lt_mul hb0).1 hR
  have HR2 := hid hR2; have HB0 := hid hb0
  clear hS' hS7 hR hR2
  go_loopg [9, 10] 32767 (fun g u v wr => ∃ lo hi : Nat, g = hi - lo ∧ u = .int .i64 (lo : Int) ∧ v = .int .i64 (hi : Int) ∧ lo * b ≤ R ∧ R < (hi + 1) * b ∧ lo ≤ hi ∧ hi ≤ 32767 ∧ Below w0.heap.size w0 wr)
  case atStart => exact ⟨0, 32767, rfl, rfl, rfl, by omega, by have := HR2.out; omega, by omega, by omega, Below.refl _ _⟩
  case round =>
    obtain ⟨lo, hi, hg, rfl, rfl, hlo, hhi, hle, hmx, hb⟩ := hrel
    obtain ⟨wq, rfl⟩ : ∃ wq : World, wq = wr := ⟨_, rfl⟩
    have HG := hid hg; have HLO := hid hlo; have HHI := hid hhi; have HB := hid hb
    have hsz : w0.heap.size ≤ wq.heap.size := hb.size
    clear hg hlo hhi hb
    by_cases hlt : lo < hi
    · have hli : (lo : Int) < (hi : Int) := by omega
      clear hexit
      obtain ⟨mid, hmid⟩ : ∃ m, m = (lo + hi + 1) / 2 := ⟨_, rfl⟩
      have hm1 : lo < mid := by omega
      have hm2 : mid ≤ hi := by omega
      have f1 : IntKind.i64.wrap ((lo : Int) + (hi : Int)) = (lo : Int) + (hi : Int) := IntWalk.i64_in _ (by omega)
      have f2 : IntKind.i64.wrap ((lo : Int) + (hi : Int) + 1) = (lo : Int) + (hi : Int) + 1 := IntWalk.i64_in _ (by omega)
      have f3 : ((lo : Int) + (hi : Int) + 1) / 2 = (mid : Int) := by omega
      have f4 : IntKind.u64.wrap (mid : Int) = (mid : Int) := by rw [IntKind.wrap_u64]; omega
      have HNUM := hid (Num_any mid wq (by omega))
      clear hmid
      go_wp2_with fail
      refine HNUM.out.mono ?_
      rintro e w2 ⟨A8, c8, rfl, hS8, hb2⟩
      have hdl : (dg mid).length ≤ 1073741824 := by
        have := (dg_length_le mid 2).2 (by omega); omega
      have hB2 : Below w0.heap.size w0 w2 := HB.out.trans (hb2.mono hsz)
      have HMUL := hid (Mul_any b mid A' A8 c' c8 w2 ((HS'.out.below hB2).more hB2.size) hS8 (by omega) hdl)
      have HB2 := hid hB2
      clear hS8 hb2 hB2 HNUM
      go_wp2_with fail
      refine HMUL.out.mono ?_
      rintro e w3 ⟨A9, c9, rfl, hS9, hb3⟩
      have hB3 : Below w0.heap.size w0 w3 := HB2.out.trans (hb3.mono HB2.out.size)
      have HLESS := hid (Less_any R (b * mid) A7 A9 c7 c9 w0.heap.size w3.heap.size w3 (HS7.out.below hB3) hS9 hl7)
      have HB3 := hid hB3
      clear hS9 hb3 hB3 HMUL
      go_wp2_with fail
      refine HLESS.out.mono ?_
      rintro e w4 ⟨rfl, n4, rfl⟩
      have HB4 := hid (belowB_drewN HB3.out n4)
      clear HLESS
      by_cases hc : R < b * mid
      · have hd : decide (R < b * mid) = true := decide_eq_true hc
        have HC : Hid (R < (mid - 1 + 1) * b) := hid (by rw [show mid - 1 + 1 = mid by omega, Nat.mul_comm]; exact hc)
        have f5 : (mid : Int) - 1 = ((mid - 1 : Nat) : Int) := by omega
        clear hc f1 f2 f3 f4
        rw [hd]
        clear hd
        go_wp2
        have hg := HG.out
        go_roundg (mid - 1 - lo)
        case measure => omega
        case rel => exact ⟨lo, mid - 1, rfl, rfl, by first | rfl | rw [f5] | (rw [← f5]), HLO.out, HC.out, by omega, by omega, HB4.out⟩
      · have hd : decide (R < b * mid) = false := decide_eq_false hc
        have HC : Hid (mid * b ≤ R) := hid (by rw [Nat.mul_comm]; omega)
        clear hc f1 f2 f3 f4
        rw [hd]
        clear hd
        go_wp2
        have hg := HG.out
        go_roundg (hi - mid)
        case measure => omega
        case rel => exact ⟨mid, hi, rfl, rfl, rfl, HC.out, HHI.out, by omega, by omega, HB4.out⟩
    · obtain rfl : lo = hi := by omega
      have hli : ¬ (lo : Int) < (lo : Int) := by omega
      have hq : lo = R / b := by
        have h1 := (Nat.le_div_iff_mul_le HB0.out).2 HLO.out
        have h2 := (Nat.div_lt_iff_lt_mul HB0.out).2 HHI.out
        omega
      subst hq
      clear HLO HHI HG
      go_wp2
      exact HB.out
set_option maxRecDepth 100000 in
set_option maxHeartbeats 3200000 in
theorem Div_at (a b : Nat) (A A' : Option Addr) (c c' : Nat) (w : World) (hS : Sq w w.heap.size A c (ivs (dg a))) (hS' : Sq w w.heap.size A' c' (ivs (dg b))) (hl : (dg a).length ≤ 1048576) (hl' : (dg b).length ≤ 1048576) (hb0 : 0 < b) :
    Calls Tryz.prog 32 #[.slice A (dg a).length c, .slice A' (dg b).length c'] w fun e w' => ∃ c1 A2 c2, e = .returned (.tuple #[.slice (some ⟨w.heap.size, 0, none⟩) (dg (a / b)).length c1, .slice A2 (dg (a % b)).length c2]) ∧ Sq w' w'.heap.size (some ⟨w.heap.size, 0, none⟩) c1 (ivs (dg (a / b))) ∧ Sq w' w'.heap.size A2 c2 (ivs (dg (a % b))) ∧ Below w.heap.size w w' := by
  obtain ⟨i0, hi, hz0, hz1, hz2⟩ := info_parts infoI64
  obtain ⟨la, hla⟩ : ∃ l, l = (dg a).length := ⟨_, rfl⟩
  have HS := hid hS; have HS' := hid hS'; have HI := hid hi; have HZ0 := hid hz0; have HZ1 := hid hz1; have HZ2 := hid hz2; have HLA := hid hla
  rw [← hla]
  have hla2 : la ≤ 1048576 := by omega
  have hlai : (0 : Int) ≤ (la : Int) := by omega
  clear hS hS' hi hz0 hz1 hz2 hla hl
  go_enter Tryz.func32, Tryz.ntmps32
  go_wp2_with (first | fail | (with_reducible refine wpList_make_full _ rfl (.tmp 13) (.tmp 13) 34 rfl w.heap.size 3 i0 (.int .i64 0) 1 Tryz.underlying34 HI.out HZ0.out HZ1.out .i64 .i64 _ _ la rfl rfl rfl rfl ?m1 ?m2 (Nat.le_refl _) ?_))
  case m1 => rw [HZ2.out]; omega
  case m2 => unfold maxLen; omega
  intro w1 hown1 hg1
  obtain ⟨hrow, _⟩ := own_row (by simpa using hown1)
  have hcs : (madeCells #[Value.int .i64 0] la).toList = ivs (List.replicate la 0) := by rw [ivs_zeros]; exact toList_madeCells_one _ _
  rw [hcs] at hrow
  have hb1 : Below w.heap.size w w1 := below_of_grown hg1 (Nat.le_refl _) (fun _ h => by cases h)
  have HROW := hid hrow; have HB1 := hid hb1
  have hala : a < 32768 ^ la := by rw [HLA.out]; exact dg_lt a
  have HALA := hid hala
  have h0 : dg (a / 32768 ^ la % b) = [] := by rw [Nat.div_eq_of_lt hala, Nat.zero_mod]; exact dg_zero
  have H0 := hid h0
  have hlw : IntKind.i64.wrap ((la : Int) - 1) = (la : Int) - 1 := IntWalk.i64_in _ (by omega)
  clear hown1 hg1 hrow hcs hb1 hala h0 HI HZ0 HZ1 HZ2
  go_wp2
  go_loopg [7, 8] la (fun g v i wr => ∃ (k : Nat) (A7 : Option Addr) (c7 : Nat) (L : List Nat), g = k ∧ i = .int .i64 ((k : Int) - 1) ∧ v = .slice A7 (dg (a / 32768 ^ k % b)).length c7 ∧ Sq wr wr.heap.size A7 c7 (ivs (dg (a / 32768 ^ k % b))) ∧ wr.heap[w.heap.size]? = some (.cells (ivs L).toArray 3 (0, 0)) ∧ L.length = la ∧ (∀ j, k ≤ j → j < la → L.getD j 0 = a / b / 32768 ^ j % 32768) ∧ Dgs L ∧ Below w.heap.size w wr ∧ k ≤ la)
  case atStart => exact ⟨la, none, 0, List.replicate la 0, rfl, rfl, by rw [H0.out]; rfl, by rw [H0.out]; exact Sq.nil, HROW.out, by simp, fun j h1 h2 => by omega, (fun x hx => by rw [List.mem_replicate] at hx; omega), HB1.out, Nat.le_refl _⟩
  case round =>
    clear HROW HB1 H0 hlw
    obtain ⟨k, A7, c7, L, hgk, rfl, rfl, hS7, hrow, hLl, hLd, hD, hb, hk⟩ := hrel
    obtain ⟨wq, rfl⟩ : ∃ wq : World, wq = wr := ⟨_, rfl⟩
    have HGK := hid hgk; have HS7 := hid hS7; have HROW := hid hrow; have HLL := hid hLl; have HLD := hid hLd; have HD := hid hD; have HB := hid hb
    have hsz : w.heap.size < wq.heap.size := block_lt hrow
    clear hgk hS7 hrow hLl hLd hD hb
    rcases k with _ | i
    · have h0 : ¬ (0 : Int) ≤ ((0 : Nat) : Int) - 1 := by omega
      have hv : val L = a / b := by
        have h := val_digits (a / b) L (fun j hj => HLD.out j (by omega) (by rw [← HLL.out]; exact hj)) L.length (Nat.le_refl _)
        rw [List.take_length, HLL.out] at h
        rw [h, Nat.mod_eq_of_lt (Nat.lt_of_le_of_lt (Nat.div_le_self _ _) HALA.out)]
      have HT := trim_any (some ⟨w.heap.size, 0, none⟩) L la wq.heap.size wq (ivs_sq HROW.out (by rw [HLL.out]; exact Nat.le_refl _) (by omega)) HD.out (by rw [HLL.out]; omega)
      rw [hv, HLL.out] at HT
      have HT := hid HT
      have hrest : a / 32768 ^ 0 % b = a % b := by simp
      have hS7 := HS7.out
      rw [hrest] at hS7
      rw [hrest]
      have HS7' := hid hS7
      clear hS7 HS7 HROW HLD HLL HGK hv hrest
      go_wp2_with fail
      refine HT.out.mono ?_
      rintro e w' ⟨rfl, hST, rfl⟩
      have HST := hid hST
      clear hST HT
      go_wp2
      exact bodyPost_ret (v := .tuple #[.slice (some ⟨w.heap.size, 0, none⟩) (dg (a / b)).length la, .slice A7 (dg (a % b)).length c7]) (by simp [results, Tryz.results32]) rfl ⟨_, _, _, rfl, HST.out, HS7'.out, HB.out⟩
    · have e1 : ((i + 1 : Nat) : Int) - 1 = (i : Int) := by omega
      rw [e1]
      have h0 : (0 : Int) ≤ (i : Int) := by omega
      have hil : (i : Int) < (la : Int) := by omega
      have hia : i < (dg a).length := by have := HLA.out; omega
      obtain ⟨R0, hR0⟩ : ∃ R, R = a / 32768 ^ (i + 1) % b := ⟨_, rfl⟩
      obtain ⟨x, hx⟩ : ∃ x, x = a / 32768 ^ i % 32768 := ⟨_, rfl⟩
      have hx1 : x < 32768 := by rw [hx]; exact Nat.mod_lt _ (by omega)
      obtain ⟨R, hR⟩ : ∃ R, R = x + 32768 * R0 := ⟨_, rfl⟩
      have hst := div_step a b i hb0
      simp only [← hx, ← hR0, ← hR] at hst
      obtain ⟨hq, hrm, hq2⟩ := hst
      have hS7 := HS7.out
      rw [← hR0] at hS7
      rw [← hR0]
      have hR0b : R0 < b := by rw [hR0]; exact Nat.mod_lt _ hb0
      have hR0l : (dg R0).length ≤ 1048576 := Nat.le_trans (dg_mono _ _ (Nat.le_of_lt hR0b)) hl'
      have hRv : val (x :: dg R0) = R := by rw [val, val_dg, hR]
      obtain ⟨bA, oA, rfl, hbA, hcx⟩ := (HS.out.below HB.out).dig hia
      rw [dg_getD, ← hx] at hcx
      have hL7 : Lie (wq.alloc (.cells #[.int .i64 (x : Int)] 3)) wq.heap.size A7 (ivs (dg R0)) := hS7.lie.alloc (Nat.le_refl _) _
      have HL7 := hid hL7; have HRV := hid hRv; have HQ := hid hq; have HRM := hid hrm
      clear hR0 hx hS7 hL7 hRv hq hrm HS7 e1 hR
      have hown0 : (wq.alloc (.cells #[.int .i64 (x : Int)] 3)).ownsRow wq.heap.size 3 1 (.slice (some ⟨wq.heap.size, 0, none⟩) 1 1) 1 [.int .i64 (x : Int)] := World.ownsRow_lit wq #[.int .i64 (x : Int)] 1 (Nat.le_refl _) (by unfold maxLen; omega) rfl
      have HOWN0 := hid hown0
      clear hown0
      go_wp2_with (at_builtin; refine wpList_append_lie rfl (.tmp 26) (.tmp 27) 34 rfl wq.heap.size 3 (.int .i64 0) 8 Tryz.underlying34 infoI64 rfl rfl HOWN0.out (ivs_length _) rfl HL7.out (ivs_one _) (by unfold maxLen; omega) (by omega) (by simp) ?_)
      intro v2 w2 hown2 hg2 _
      have hown3 : OwnI w2 wq.heap.size v2 (x :: dg R0) := by
        unfold OwnI
        rw [List.length_cons, Nat.add_comm]
        exact hown2
      have hB2q : Below wq.heap.size wq w2 := ((Below.refl _ _).alloc (Nat.le_refl _) _).grown hg2 (by simp) (fun q h => own_lt HOWN0.out q h)
      obtain ⟨A2, c2, rfl, hS2⟩ := own_sl hown3
      have hne : ∀ b o sp, A2 = some ⟨b, o, sp⟩ → wq.heap.size ≤ b := fun b o sp e => by subst e; exact own_lt hown3 b (by simp [Value.ownBlock])
      have HNE := hid hne
      clear hne
      have HT := trim_any A2 (x :: dg R0) c2 w2.heap.size w2 hS2.sq (dgs_cons hx1 (dg_dgs _)) (by rw [List.length_cons]; omega)
      rw [HRV.out] at HT
      have HT := hid HT; have HB2Q := hid hB2q
      clear hown2 hg2 hown3 hB2q hS2 HL7 HOWN0 hcx
      go_wp2_with fail
      refine HT.out.mono ?_
      rintro e w' ⟨rfl, hSR, rfl⟩
      have HSR := hid hSR
      have hB2 : Below w.heap.size w w2 := HB.out.trans (HB2Q.out.mono HB.out.size)
      have HB2 := hid hB2
      have HS2' := hid ((HS'.out.below hB2).more hB2.size)
      have hRl : (dg R).length ≤ 1073741824 := by
        have h1 : R < 32768 * b := (Nat.div_lt_iff_lt_mul hb0).1 hq2
        have h2 : R < 32768 ^ ((dg b).length + 1) := Nat.lt_of_lt_of_le h1 (by rw [Nat.pow_succ, Nat.mul_comm]; exact Nat.mul_le_mul_right _ (Nat.le_of_lt (dg_lt b)))
        have := (dg_length_le R _).2 h2
        omega
      clear hSR hB2 HT
      go_wp2
      refine halves_loop R b A' c' A2 c2 w2 _ _ _ _ _ _ _ _ _ _ _ _ _ _ _ _ _ _ _ _ _ _ _ _ _ _ _ _ _ _ _ _ _ _ _ _ _ _ _ _ _ _ _ _ _ _ _ _ _ _ _ _ _ _ _ _ _ _ HS2'.out HSR.out hl' (by omega) hb0 hq2 ?_
      intro w3 u10 u11 u30 u31 u32 u33 u34 u35 u36 u37 u38 u39 u40 u41 u42 u43 u44 u45 u46 u47 hb3
      obtain ⟨q, hqd⟩ : ∃ q, q = R / b := ⟨_, rfl⟩
      have hqv : q = a / b / 32768 ^ i % 32768 := by rw [hqd]; exact HQ.out
      have hql : q < 32768 := by rw [hqd]; exact hq2
      rw [← hqd]
      have hB3q : Below wq.heap.size wq w3 := HB2Q.out.trans (hb3.mono HB2Q.out.size)
      have hrow3 : w3.heap[w.heap.size]? = some (.cells (ivs L).toArray 3 (0, 0)) := (hB3q.block _ hsz).trans HROW.out
      have hcq := ivs_cell hrow3 i (by rw [HLL.out]; omega)
      have hfz : w3.frozen? ⟨w.heap.size, i, none⟩ = false := frozen_of_row _ _ _ _ _ hrow3
      have hrow4 := block_set hrow3 i (.int .i64 (q : Int))
      rw [ivs_set] at hrow4
      have hB3 : Below w.heap.size w w3 := HB.out.trans (hB3q.mono HB.out.size)
      obtain ⟨w4, hw4⟩ : ∃ w4, w4 = w3.setCell ⟨w.heap.size, i, none⟩ (.int .i64 (q : Int)) := ⟨_, rfl⟩
      have HROW4 : Hid (w4.heap[w.heap.size]? = some (.cells (ivs (L.set i q)).toArray 3 (0, 0))) := hid (by rw [hw4]; exact hrow4)
      have HB4 : Hid (Below w.heap.size w w4) := hid (by rw [hw4]; exact hB3.setCell (Nat.le_refl _) _)
      have HSR4 : Hid (Sq w4 w4.heap.size A2 c2 (ivs (dg R))) := hid (by
        have h3 : Sq w3 w3.heap.size A2 c2 (ivs (dg R)) := (HSR.out.below hb3).more hb3.size
        rw [hw4]
        exact (Sq.other h3 (grown_setCell w3 w.heap.size i none _) (Nat.le_refl _) (fun _ b o sp e => by have := HNE.out b o sp e; omega)).more (by simp))
      have f4 : IntKind.u64.wrap (q : Int) = (q : Int) := by rw [IntKind.wrap_u64]; omega
      have HNUM := hid (Num_any q w4 (by omega))
      have hqdl : (dg q).length ≤ 1073741824 := by
        have := (dg_length_le q 2).2 (by omega); omega
      have HQV := hid hqv; have HQD := hid hqd
      clear hqv hqd hB3q hrow3 hrow4 hB3 hb3 HSR HS2' HB2 HB2Q
      have hlen : (i : Int) < (la : Int) := hil
      go_wp2_with fail
      rw [← hw4]
      clear hw4 hcq hfz
      refine HNUM.out.mono ?_
      rintro e w5 ⟨A8, c8, rfl, hS8, hb5⟩
      have hB5 : Below w.heap.size w w5 := HB4.out.trans (hb5.mono HB4.out.size)
      have HMUL := hid (Mul_any b q A' A8 c' c8 w5 ((HS'.out.below hB5).more hB5.size) hS8 (by omega) hqdl)
      have HB45 := hid hb5; have HB5 := hid hB5
      clear hS8 hb5 hB5 HNUM
      go_wp2_with fail
      refine HMUL.out.mono ?_
      rintro e w6 ⟨A9, c9, rfl, hS9, hb6⟩
      have hb46 : Below w4.heap.size w4 w6 := HB45.out.trans (hb6.mono HB45.out.size)
      have hle : b * q ≤ R := by rw [HQD.out]; exact Nat.mul_div_le R b
      have hsub : R - b * q = a / 32768 ^ i % b := by
        rw [← HRM.out, HQD.out]
        have := Nat.div_add_mod R b
        omega
      have HSUB := Sub_any R (b * q) A2 A9 c2 c9 w6 ((HSR4.out.below hb46).more hb46.size) hS9 (by omega) hle
      rw [hsub] at HSUB
      have HSUB := hid HSUB; have HB46 := hid hb46
      clear hS9 hb6 hb46 hle hsub HMUL HB45
      go_wp2_with fail
      refine HSUB.out.mono ?_
      rintro e w7 ⟨A6, c6, rfl, hS6, hb7⟩
      have hb47 : Below w4.heap.size w4 w7 := HB46.out.trans (hb7.mono HB46.out.size)
      have hwl : w.heap.size < w4.heap.size := block_lt HROW4.out
      have hrow7 : w7.heap[w.heap.size]? = some (.cells (ivs (L.set i q)).toArray 3 (0, 0)) := (hb47.block _ hwl).trans HROW4.out
      have HS6 := hid hS6; have HROW7 := hid hrow7; have HB7 := hid (HB4.out.trans (hb47.mono HB4.out.size))
      have hLd2 : ∀ j, i ≤ j → j < la → (L.set i q).getD j 0 = a / b / 32768 ^ j % 32768 := fun j h1 h2 => by
        by_cases e : i = j
        · subst e
          rw [List.getD_eq_getElem?_getD, List.getElem?_set_self (by rw [HLL.out]; exact h2)]
          exact HQV.out
        · rw [List.getD_eq_getElem?_getD, List.getElem?_set_ne e, ← List.getD_eq_getElem?_getD]
          exact HLD.out j (by omega) h2
      have HLD2 := hid hLd2; have HD2 := hid (Dgs.set HD.out i q hql)
      have HLL2 : Hid ((L.set i q).length = la) := hid (by rw [List.length_set]; exact HLL.out)
      clear hS6 hb7 hb47 hrow7 hLd2 HSUB HB46 HROW4 HSR4 HNE HLD HROW HD
      have f5 : IntKind.i64.wrap ((i : Int) - 1) = (i : Int) - 1 := IntWalk.i64_in _ (by omega)
      go_wp2
      have hgk := HGK.out
      go_roundg i
      case measure => omega
      case rel => exact ⟨i, A6, c6, _, rfl, rfl, rfl, HS6.out, HROW7.out, HLL2.out, HLD2.out, HD2.out, HB7.out, by omega⟩
end Go.Proofs.YtheamlhhfkaknaaGreatDoor
end
section
namespace Go.Proofs.YtheamlhhfkaknaaGreatDoor
open Go.RowKit
set_option linter.unusedVariables false
set_option linter.unusedSimpArgs false
theorem Sq.on6 {w w' : World} {A : Option Addr} {c : Nat} {xs : List Value} (h : Sq w w.heap.size A c xs) (hb : Below w.heap.size w w') : Sq w' w'.heap.size A c xs := (h.below hb).more hb.size
theorem dgl6 (N : Nat) (h : N < 32768 ^ 50) : (dg N).length ≤ 50 := (dg_length_le N 50).2 h
theorem grownF {w a : World} (h : Below w.heap.size w a) : w.grownBy a none := ⟨h.os, h.tape, h.output, h.size, fun k hk _ => h.block k hk⟩
end Go.Proofs.YtheamlhhfkaknaaGreatDoor
end
