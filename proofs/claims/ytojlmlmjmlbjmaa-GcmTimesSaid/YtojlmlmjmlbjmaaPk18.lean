/-
  Texts of this claim in one file: Law12a, Law12c, Law12b, Law12d.
-/
import Derived.Test.YtojlmlmjmlbjmaaPk11
import Derived.Deep.OwnRows
import Derived.Test.YtojlmlmjmlbjmaaPk19
section
namespace Go.Proofs.Ytojlmlmjmlbjmaa
open Go.RowKit
set_option linter.unusedVariables false
set_option linter.unusedSimpArgs false
/-- A text sealed by the package. -/
def SealOk : Prop := ∀ (A A' A2 A3 : Option Addr) (key nonce text more : List UInt8) (m m' n2 n3 c c' c2 c3 : Nat) (w : World), Sq w w.heap.size A c (bvs key) → Sq w w.heap.size A' c' (bvs nonce) → Sq w w.heap.size A2 c2 (bvs text) → Sq w w.heap.size A3 c3 (bvs more) → key.length = m → nonce.length = m' → text.length = n2 → more.length = n3 → m ≤ 1000 → m' ≤ 1000 → n2 ≤ 1000 → n3 ≤ 1000 →
  Calls Try.prog 8 #[.slice A m c, .slice A' m' c', .slice A2 n2 c2, .slice A3 n3 c3] w fun e w' => (if m = 16 ∧ m' = 12 then ∃ v, e = .returned (.tuple #[v, .bool true]) ∧ OwnB w' w.heap.size v (seal12L key nonce text more) else ∃ A4 c4, e = .returned (.tuple #[.slice A4 0 c4, .bool false])) ∧ Below w.heap.size w w'
/-- Which bytes are opened. -/
def opens (key nonce sealed more : List UInt8) : Prop := key.length = 16 ∧ nonce.length = 12 ∧ 16 ≤ sealed.length ∧ sealed.drop (sealed.length - 16) = tagL key nonce (sealed.take (sealed.length - 16)) more
instance (key nonce sealed more : List UInt8) : Decidable (opens key nonce sealed more) := by unfold opens; infer_instance
/-- Bytes opened by the package. -/
def OpenOk : Prop := ∀ (A A' A2 A3 : Option Addr) (key nonce sealed more : List UInt8) (m m' n2 n3 c c' c2 c3 : Nat) (w : World), Sq w w.heap.size A c (bvs key) → Sq w w.heap.size A' c' (bvs nonce) → Sq w w.heap.size A2 c2 (bvs sealed) → Sq w w.heap.size A3 c3 (bvs more) → key.length = m → nonce.length = m' → sealed.length = n2 → more.length = n3 → m ≤ 1000 → m' ≤ 1000 → n2 ≤ 1000 → n3 ≤ 1000 →
  Calls Try.prog 9 #[.slice A m c, .slice A' m' c', .slice A2 n2 c2, .slice A3 n3 c3] w fun e w' => (if opens key nonce sealed more then ∃ v, e = .returned (.tuple #[v, .bool true]) ∧ OwnB w' w.heap.size v (maskedL key nonce (sealed.take (sealed.length - 16))) else ∃ A4 c4, e = .returned (.tuple #[.slice A4 0 c4, .bool false])) ∧ Below w.heap.size w w'
/-- A mask taken off again. -/
theorem masked_twice (key nonce text : List UInt8) : maskedL key nonce (maskedL key nonce text) = text := by
  have hl : (maskedL key nonce text).length = text.length := maskedL_length _ _ _
  refine List.ext_getElem (by rw [maskedL_length, hl]) fun i h1 h2 => ?_
  have e : ∀ (t : List UInt8) (h : i < t.length) (h' : i < (maskedL key nonce t).length), (maskedL key nonce t)[i] = UInt8.ofNat (bf t i ^^^ mskB key nonce i) := fun t h h' => by simp [maskedL, mskN]
  have hm : mskB key nonce i < 256 := bf_lt _ _
  rw [e _ (by omega) h1, bf_at _ _ (by omega), e text h2 (by omega), UInt8.toNat_ofNat', Nat.mod_eq_of_lt (show bf text i ^^^ mskB key nonce i < 2 ^ 8 from Nat.xor_lt_two_pow (n := 8) (bf_lt _ _) hm), Nat.xor_assoc, Nat.xor_self, Nat.xor_zero, bf_at _ _ h2]
  simp
theorem sealed_take (key nonce text more : List UInt8) : (seal12L key nonce text more).take ((seal12L key nonce text more).length - 16) = maskedL key nonce text := by
  rw [seal12L_length, Nat.add_sub_cancel]
  unfold seal12L
  rw [List.take_append_of_le_length (by rw [maskedL_length]; exact Nat.le_refl _), List.take_of_length_le (by rw [maskedL_length]; exact Nat.le_refl _)]
theorem sealed_drop (key nonce text more : List UInt8) : (seal12L key nonce text more).drop ((seal12L key nonce text more).length - 16) = tagL key nonce (maskedL key nonce text) more := by
  rw [seal12L_length, Nat.add_sub_cancel]
  unfold seal12L
  rw [← maskedL_length key nonce text, List.drop_left]
theorem sealed_opens (key nonce text more : List UInt8) (hk : key.length = 16) (hn : nonce.length = 12) : opens key nonce (seal12L key nonce text more) more :=
  ⟨hk, hn, by rw [seal12L_length]; omega, by rw [sealed_drop, sealed_take]⟩
/-- The product by the package. -/
def TimesOk : Prop := ∀ (A A' : Option Addr) (xs ys : List UInt8) (n n' c c' : Nat) (w : World), Sq w w.heap.size A c (bvs xs) → Sq w w.heap.size A' c' (bvs ys) → xs.length = n → ys.length = n' → n ≤ 1000 → n' ≤ 1000 →
  Calls Try.prog 15 #[.slice A n c, .slice A' n' c'] w fun e w' => (if n = 16 ∧ n' = 16 then ∃ v, e = .returned (.tuple #[v, .bool true]) ∧ OwnB w' w.heap.size v (timesL xs ys) else ∃ A2 c2, e = .returned (.tuple #[.slice A2 0 c2, .bool false])) ∧ Below w.heap.size w w'
def z12R : Array Value := (bvs z12).toArray
theorem mk12 (W : World) : (Instr.makeSlice 22 (.int .i64 12) (.int .i64 12)).run Try.prog W = .ok (.slice (some ⟨W.heap.size, 0, none⟩) 12 12) (W.alloc (.cells z12R 5)) := by
  have h := run_make_row' (P := Try.prog) 22 5 (.int .u8 0) 1 Try.underlying22 infoU8 rfl .i64 .i64 12 (by omega) (by omega) W
  have hz : madeCells #[Value.int .u8 0] 12 = z12R := by
    have e := toList_madeCells_one (Value.int .u8 0) 12
    refine Array.toList_inj.1 ?_
    rw [e]
    rfl
  rw [hz] at h
  exact h
theorem made_sq (W : World) (xs : List UInt8) (R : Array Value) (hR : R = (bvs xs).toArray) (n : Nat) (hn : xs.length = n) (hl : n ≤ 1000) : Sq (W.alloc (.cells R 5)) (W.alloc (.cells R 5)).heap.size (some ⟨W.heap.size, 0, none⟩) n (bvs xs) := by
  subst hR
  exact Lie.sq ((Lie.newA W _ 5).more (by simp)) (by rw [bvs_length, hn]; exact Nat.le_refl _) (by omega)
theorem sq_on {w w' : World} {A : Option Addr} {c : Nat} {xs : List Value} (h : Sq w w.heap.size A c xs) (hb : Below w.heap.size w w') : Sq w' w'.heap.size A c xs := (h.below hb).more hb.size
theorem made_two (W : World) (xs ys : List UInt8) (R T : Array Value) (hR : R = (bvs xs).toArray) (hT : T = (bvs ys).toArray) (n m : Nat) (hn : xs.length = n) (hm : ys.length = m) (hl : n ≤ 1000) (hl' : m ≤ 1000) :
    Sq ((W.alloc (.cells R 5)).alloc (.cells T 5)) ((W.alloc (.cells R 5)).alloc (.cells T 5)).heap.size (some ⟨W.heap.size, 0, none⟩) n (bvs xs) ∧
    Sq ((W.alloc (.cells R 5)).alloc (.cells T 5)) ((W.alloc (.cells R 5)).alloc (.cells T 5)).heap.size (some ⟨W.heap.size + 1, 0, none⟩) m (bvs ys) ∧
    Below W.heap.size W ((W.alloc (.cells R 5)).alloc (.cells T 5)) := by
  have hb : Below (W.alloc (.cells R 5)).heap.size (W.alloc (.cells R 5)) ((W.alloc (.cells R 5)).alloc (.cells T 5)) := (Below.refl _ _).alloc (Nat.le_refl _) _
  have h2 := made_sq (W.alloc (.cells R 5)) ys T hT m hm hl'
  have e : (W.alloc (.cells R 5)).heap.size = W.heap.size + 1 := by simp
  rw [e] at h2
  exact ⟨sq_on (made_sq W xs R hR n hn hl) hb, h2, ((Below.refl _ _).alloc (Nat.le_refl _) _).alloc (by simp) _⟩
theorem own_cells {w : World} {B n c : Nat} {A : Option Addr} {xs : List UInt8} (h : Sq w B A c (bvs xs)) (hn : xs.length = n) (h0 : 0 < n) : ∃ b o, A = some ⟨b, o, none⟩ ∧ b < B ∧ ∀ k, k < n → w.cell? ⟨b, o + k, none⟩ = some (.int .u8 ((bf xs k : Nat) : Int)) := by
  subst hn
  rcases h with ⟨h, _⟩ | ⟨b, o, hA, hb, _, _, hc⟩
  · have := congrArg List.length h
    rw [bvs_length, List.length_nil] at this
    omega
  · refine ⟨b, o, hA, hb, fun k hk => ?_⟩
    rw [bf_at _ _ hk]
    exact hc k _ (by rw [List.getElem?_eq_getElem (by simpa using hk), bvs_get])
set_option maxHeartbeats 1000000 in
theorem alive12_any (hS : SealOk) (w : World) : Calls Try.prog 7 #[] w fun e w' => e = .returned (.bool true) ∧ Below w.heap.size w w' := by
  have hmk := mk16
  have hmk2 := mk12
  have HS := hid hS
  have hz : zk.length = 16 := blkL_length _
  have HT := hid (made_two w zk z12 (bR fun _ => 0) z12R rfl rfl 16 12 hz rfl (by omega) (by omega))
  have HU := hid (made_two w z12 zk z12R (bR fun _ => 0) rfl rfl 12 16 rfl hz (by omega) (by omega))
  have HZ := hid hz
  have HZN : Hid (z12.length = 12) := hid rfl
  have HEX := hid ex_seal4
  obtain ⟨X, hX⟩ : ∃ X, X = seal12L zk z12 [] [] := ⟨_, rfl⟩
  have HXL : Hid (X.length = 16) := hid (by rw [hX, seal12L_length]; rfl)
  rw [← hX] at HEX
  have KS : Hid (∀ (A A' : Option Addr) (W : World), Sq W W.heap.size A 16 (bvs zk) → Sq W W.heap.size A' 12 (bvs z12) → Calls Try.prog 8 #[.slice A (16 : Nat) 16, .slice A' (12 : Nat) 12, .slice none 0 0, .slice none 0 0] W fun e w' => ∃ v, e = .returned (.tuple #[v, .bool true]) ∧ OwnB w' W.heap.size v X ∧ Below W.heap.size W w') := hid fun A A' W h1 h2 => by
    rw [hX]
    exact (hS A A' none none zk z12 [] [] 16 12 0 0 16 12 0 0 W h1 h2 Sq.nil Sq.nil hz rfl rfl rfl (by omega) (by omega) (by omega) (by omega)).mono fun e w' h => by
      obtain ⟨h, hb⟩ := h
      rw [if_pos ⟨rfl, rfl⟩] at h
      obtain ⟨v, he, ho⟩ := h
      exact ⟨v, he, ho, hb⟩
  clear hS hz hX HS
  go_enter Try.func7, Try.ntmps7
  have hB0 : Below w.heap.size w w.drew := (Below.refl _ _).drew
  have hB00 : Below w.heap.size w w := Below.refl _ _
  go_wp2_with fail
  go_region_held3 (fun W => Below w.heap.size w W)
    (first
      | exact hB0
      | exact (hB00.alloc (Nat.le_refl _) _).drew
      | exact ((hB00.alloc (Nat.le_refl _) _).alloc (by simp) _).drew
      | assumption)
    (first
      | (go_at_call 8; refine (KS.out _ _ _ (by first | exact HT.out.1 | exact HU.out.2.1) (by first | exact HT.out.2.1 | exact HU.out.1)).mono ?_; rintro e w2 ⟨v2, rfl, ho2, hb2⟩; have hB2 : Below w.heap.size w w2 := (by first | exact HT.out.2.2.drew.trans (hb2.mono HT.out.2.2.size) | exact HU.out.2.2.drew.trans (hb2.mono HU.out.2.2.size)); have HB2 := hid hB2; obtain ⟨A2, c2, hv2, hS2⟩ := own_n ho2 HXL.out; subst hv2; obtain ⟨b2, o2, rfl, hb2', hcell⟩ := own_cells hS2.sq HXL.out (by decide); have c0 : w2.cell? ⟨b2, o2, none⟩ = some (.int .u8 88) := (by have h := hcell 0 (by decide); rw [HEX.out.1] at h; exact h); have c1 : w2.cell? ⟨b2, o2 + 1, none⟩ = some (.int .u8 226) := (by have h := hcell 1 (by decide); rw [HEX.out.2.1] at h; exact h); have c2 : w2.cell? ⟨b2, o2 + 2, none⟩ = some (.int .u8 252) := (by have h := hcell 2 (by decide); rw [HEX.out.2.2.1] at h; exact h); have c3 : w2.cell? ⟨b2, o2 + 3, none⟩ = some (.int .u8 206) := (by have h := hcell 3 (by decide); rw [HEX.out.2.2.2] at h; exact h); clear hcell hS2 ho2 hb2))
  all_goals clear hB0 hB00 KS hmk hmk2 hB2
  all_goals go_wp2
  all_goals go_ret
  all_goals exact ⟨rfl, HB2.out⟩
end Go.Proofs.Ytojlmlmjmlbjmaa
end
section
namespace Go.Proofs.Ytojlmlmjmlbjmaa
open Go.RowKit
set_option linter.unusedVariables false
set_option linter.unusedSimpArgs false
set_option maxRecDepth 100000 in
set_option maxHeartbeats 4000000 in
theorem seals12_good (hSl : SealOk) (hOp : OpenOk) (A A' A2 A3 : Option Addr) (key nonce text more : List UInt8) (n2 n3 c c' c2 c3 : Nat) (w : World) (hX : Sq w w.heap.size A c (bvs key)) (hY : Sq w w.heap.size A' c' (bvs nonce)) (hZ : Sq w w.heap.size A2 c2 (bvs text)) (hM : Sq w w.heap.size A3 c3 (bvs more)) (hn : key.length = 16) (hn' : nonce.length = 12) (hn2 : text.length = n2) (hn3 : more.length = n3) :
    Calls Try.prog 3 #[.slice A (16 : Nat) c, .slice A' (12 : Nat) c', .slice A2 n2 c2, .slice A3 n3 c3] w fun e w' => e = .returned (.bool true) ∧ Below w.heap.size w w' := by
  have KA := hid (alive12_any hSl w)
  have SX : Hid (∀ W, Below w.heap.size w W → Sq W W.heap.size A c (bvs key)) := hid fun W h => sq_on hX h
  have SY : Hid (∀ W, Below w.heap.size w W → Sq W W.heap.size A' c' (bvs nonce)) := hid fun W h => sq_on hY h
  have SZ : Hid (∀ W, Below w.heap.size w W → Sq W W.heap.size A2 c2 (bvs text)) := hid fun W h => sq_on hZ h
  have SM : Hid (∀ W, Below w.heap.size w W → Sq W W.heap.size A3 c3 (bvs more)) := hid fun W h => sq_on hM h
  have HN := hid hn; have HN' := hid hn'; have HN2 := hid hn2; have HN3 := hid hn3
  have HSL := hid hSl; have HOP := hid hOp
  clear hX hY hZ hM hSl hOp hn hn' hn2 hn3
  go_enter Try.func3, Try.ntmps3
  go_wp2_with fail
  refine KA.out.mono ?_
  rintro e w1 ⟨rfl, hb1⟩
  have HB1 := hid hb1
  clear hb1 KA
  by_cases hl2 : 100 < n2
  · have hi : (100 : Int) < (n2 : Int) := by omega
    have hd : decide ((100 : Int) < (n2 : Int)) = true := by simpa using hi
    go_wp2
    go_ret
    exact ⟨rfl, HB1.out⟩
  have hi2 : ¬ (100 : Int) < (n2 : Int) := by omega
  have hd2 : decide ((100 : Int) < (n2 : Int)) = false := by simpa using hi2
  by_cases hl3 : 60 < n3
  · have hi : (60 : Int) < (n3 : Int) := by omega
    have hd : decide ((60 : Int) < (n3 : Int)) = true := by simpa using hi
    go_wp2
    go_ret
    exact ⟨rfl, HB1.out⟩
  have hi3 : ¬ (60 : Int) < (n3 : Int) := by omega
  have hd3 : decide ((60 : Int) < (n3 : Int)) = false := by simpa using hi3
  obtain ⟨S, hS⟩ : ∃ S, S = seal12L key nonce text more := ⟨_, rfl⟩
  obtain ⟨L, hL⟩ : ∃ L, L = S.length := ⟨_, rfl⟩
  have hLL : L = n2 + 16 := by rw [hL, hS, seal12L_length, HN2.out]
  have KS : Hid (Calls Try.prog 8 #[.slice A (16 : Nat) c, .slice A' (12 : Nat) c', .slice A2 n2 c2, .slice A3 n3 c3] w1 fun e w' => ∃ As cs, e = .returned (.tuple #[.slice As L cs, .bool true]) ∧ Sq w' w'.heap.size As cs (bvs S) ∧ Below w1.heap.size w1 w') := hid (
    (HSL.out A A' A2 A3 key nonce text more 16 12 n2 n3 c c' c2 c3 w1 (SX.out _ HB1.out) (SY.out _ HB1.out) (SZ.out _ HB1.out) (SM.out _ HB1.out) HN.out HN'.out HN2.out HN3.out (by omega) (by omega) (by omega) (by omega)).mono fun e w' h => by
      obtain ⟨h, hb⟩ := h
      rw [if_pos ⟨rfl, rfl⟩, ← hS] at h
      obtain ⟨v, rfl, ho⟩ := h
      obtain ⟨As, cs, rfl, hq⟩ := own_n ho hL.symm
      exact ⟨As, cs, rfl, hq.sq, hb⟩)
  have KO : Hid (∀ (W : World) (As : Option Addr) (cs : Nat), Below w.heap.size w W → Sq W W.heap.size As cs (bvs S) → Calls Try.prog 9 #[.slice A (16 : Nat) c, .slice A' (12 : Nat) c', .slice As L cs, .slice A3 n3 c3] W fun e w' => ∃ At ct, e = .returned (.tuple #[.slice At n2 ct, .bool true]) ∧ Sq w' w'.heap.size At ct (bvs text) ∧ Below W.heap.size W w') := hid fun W As cs hb hq =>
    (HOP.out A A' As A3 key nonce S more 16 12 L n3 c c' cs c3 W (SX.out _ hb) (SY.out _ hb) hq (SM.out _ hb) HN.out HN'.out hL.symm HN3.out (by omega) (by omega) (by omega) (by omega)).mono fun e w' h => by
      obtain ⟨h, hb⟩ := h
      rw [if_pos (by rw [hS]; exact sealed_opens _ _ _ _ HN.out HN'.out), show S.take (S.length - 16) = maskedL key nonce text by rw [hS]; exact sealed_take _ _ _ _, masked_twice] at h
      obtain ⟨v, rfl, ho⟩ := h
      obtain ⟨At, ct, rfl, hq⟩ := own_n ho HN2.out
      exact ⟨At, ct, rfl, hq.sq, hb⟩
  have KD : Hid (∀ (W : World), Below w.heap.size w W → Calls Try.prog 11 #[.slice A (16 : Nat) c, .slice A' (12 : Nat) c', .slice A2 n2 c2, .slice A3 n3 c3] W fun e w' => ∃ Ad cd, e = .returned (.slice Ad L cd) ∧ Sq w' w'.heap.size Ad cd (bvs S) ∧ Below W.heap.size W w') := hid fun W hb =>
    (Seal12_any A A' A2 A3 key nonce text more 16 12 n2 n3 c c' c2 c3 W (SX.out _ hb) (SY.out _ hb) (SZ.out _ hb).lie (SM.out _ hb).lie HN.out HN'.out rfl rfl HN2.out HN3.out (by omega) (by omega)).mono fun e w' h => by
      obtain ⟨v, rfl, ho, hb⟩ := h
      rw [← hS] at ho
      obtain ⟨Ad, cd, rfl, hq⟩ := own_n ho hL.symm
      exact ⟨Ad, cd, rfl, hq.sq, hb⟩
  have KE : Hid (∀ (W : World) (P Q : Option Addr) (p q : Nat) (xs : List UInt8) (k : Nat), Sq W W.heap.size P p (bvs xs) → Sq W W.heap.size Q q (bvs xs) → xs.length = k → k ≤ 1000 → Calls Try.prog 10 #[.slice P k p, .slice Q k q] W fun e w' => e = .returned (.bool true) ∧ ∃ n, w' = W.drewN n) := hid fun W P Q p q xs k h1 h2 h3 h4 => by
    subst h3
    have h := Same_any P xs p Q xs q W W.heap.size W.heap.size h1.lie h2.lie (by omega)
    rwa [beq_self_eq_true] at h
  have HLb : Hid (L ≤ 1000 ∧ n2 ≤ 1000 ∧ S.length = L) := hid ⟨by omega, by omega, hL.symm⟩
  clear hS hL hLL hl2 hl3 HSL HOP SX SY SM
  go_wp2_with fail
  refine KS.out.mono ?_
  rintro e w2 ⟨As, cs, rfl, hq2, hb2⟩
  have HB2 : Hid (Below w.heap.size w w2) := hid (HB1.out.trans (hb2.mono HB1.out.size))
  have HQ2 := hid hq2
  clear hq2 hb2 KS
  go_wp2_with fail
  refine (KO.out w2 As cs HB2.out HQ2.out).mono ?_
  rintro e w3 ⟨At, ct, rfl, hq3, hb3⟩
  have HB3 : Hid (Below w.heap.size w w3) := hid (HB2.out.trans (hb3.mono HB2.out.size))
  have HQ3 := hid (sq_on HQ2.out hb3); have HT3 := hid hq3
  clear hq3 hb3 KO HQ2 HB1
  go_wp2_with fail
  refine (KD.out w3 HB3.out).mono ?_
  rintro e w4 ⟨Ad, cd, rfl, hq4, hb4⟩
  have HB4 : Hid (Below w.heap.size w w4) := hid (HB3.out.trans (hb4.mono HB3.out.size))
  have HQ4 := hid (sq_on HQ3.out hb4); have HT4 := hid (sq_on HT3.out hb4); have HD4 := hid hq4
  clear hq4 hb4 KD HQ3 HT3 HB2 HB3
  go_wp2_with fail
  refine (KE.out w4 As Ad cs cd S L HQ4.out HD4.out HLb.out.2.2 HLb.out.1).mono ?_
  rintro e w5 ⟨rfl, k5, rfl⟩
  have HB5 : Hid (Below w.heap.size w (w4.drewN k5)) := hid ⟨HB4.out.os, HB4.out.tape, HB4.out.output, HB4.out.size, HB4.out.block⟩
  have KE2 := hid (KE.out (w4.drewN k5) At A2 ct c2 text n2 HT4.out (SZ.out _ HB5.out) HN2.out HLb.out.2.1)
  clear KE HB4
  go_wp2_with fail
  refine KE2.out.mono ?_
  rintro e w6 ⟨rfl, k6, rfl⟩
  go_wp2
  go_ret
  exact ⟨rfl, ⟨HB5.out.os, HB5.out.tape, HB5.out.output, HB5.out.size, HB5.out.block⟩⟩
end Go.Proofs.Ytojlmlmjmlbjmaa
end
section
namespace Go.Proofs.Ytojlmlmjmlbjmaa
open Go.RowKit
set_option linter.unusedVariables false
set_option linter.unusedSimpArgs false
theorem row_sq12 {w : World} {g : Nat} {S : Nat → Nat} (h : w.heap[g]? = some (.cells (bR S) 5 (0, 0))) : Sq w w.heap.size (some ⟨g, 0, none⟩) 16 (bvs (blkL S)) := by
  refine .inr ⟨g, 0, rfl, (Array.getElem?_eq_some_iff.1 h).1, by rw [bvs_length, blkL_length]; exact Nat.le_refl _, by omega, fun j u hj => ?_⟩
  rw [Nat.zero_add]
  exact cell_of h j u (by unfold bR; rw [List.getElem?_toArray]; exact hj)
theorem blk_xor (ys zs : List UInt8) (hy : ys.length = 16) (hz : zs.length = 16) : blkL (fun j => bf ys j ^^^ bf zs j) = xorL ys zs :=
  bf_ext (blkL_length _) (by rw [xorL_length _ _ (by omega), hy]) fun i hi => by
    rw [bf_blkL _ (fun j => xor_b (bf_lt _ _) (bf_lt _ _)) i hi, bf_xorL _ _ i (by omega) (by omega)]
set_option maxRecDepth 100000 in
set_option maxHeartbeats 4000000 in
theorem times12_any (hSl : SealOk) (hTm : TimesOk) (A A' A2 : Option Addr) (xs ys zs : List UInt8) (n n' n2 c c' c2 : Nat) (w : World) (hX : Sq w w.heap.size A c (bvs xs)) (hY : Sq w w.heap.size A' c' (bvs ys)) (hZ : Sq w w.heap.size A2 c2 (bvs zs)) (hn : xs.length = n) (hn' : ys.length = n') (hn2 : zs.length = n2) :
    Calls Try.prog 5 #[.slice A n c, .slice A' n' c', .slice A2 n2 c2] w fun e w' => e = .returned (.bool true) ∧ Below w.heap.size w w' := by
  have KA := hid (alive12_any hSl w)
  have SX : Hid (∀ W, Below w.heap.size w W → Sq W W.heap.size A c (bvs xs)) := hid fun W h => sq_on hX h
  have SY : Hid (∀ W, Below w.heap.size w W → Sq W W.heap.size A' c' (bvs ys)) := hid fun W h => sq_on hY h
  have SZ : Hid (∀ W, Below w.heap.size w W → Sq W W.heap.size A2 c2 (bvs zs)) := hid fun W h => sq_on hZ h
  have HTM := hid hTm; have HN := hid hn; have HN' := hid hn'; have HN2 := hid hn2
  have hnb : ∀ (W : World) (p q : Bool), (binOp .neq 4 (.bool p) (.bool q)).run Try.prog W = .ok (.bool (!(p == q))) W := fun W p q => run_neq_bool W 4 p q Try.underlying4
  have hmk := mk16
  clear hX hY hZ hSl hTm hn hn' hn2
  go_enter Try.func5, Try.ntmps5
  go_wp2_with fail
  refine KA.out.mono ?_
  rintro e w1 ⟨rfl, hb1⟩
  have HB1 := hid hb1
  clear hb1 KA
  by_cases hl1 : 40 < n
  · have hi : (40 : Int) < (n : Int) := by omega
    have hd : decide ((40 : Int) < (n : Int)) = true := by simpa using hi
    go_wp2
    go_ret
    exact ⟨rfl, HB1.out⟩
  have hi1 : ¬ (40 : Int) < (n : Int) := by omega
  have hd1 : decide ((40 : Int) < (n : Int)) = false := by simpa using hi1
  by_cases hl2 : 40 < n'
  · have hi : (40 : Int) < (n' : Int) := by omega
    have hd : decide ((40 : Int) < (n' : Int)) = true := by simpa using hi
    go_wp2
    go_ret
    exact ⟨rfl, HB1.out⟩
  have hi2 : ¬ (40 : Int) < (n' : Int) := by omega
  have hd2 : decide ((40 : Int) < (n' : Int)) = false := by simpa using hi2
  by_cases hl3 : 40 < n2
  · have hi : (40 : Int) < (n2 : Int) := by omega
    have hd : decide ((40 : Int) < (n2 : Int)) = true := by simpa using hi
    go_wp2
    go_ret
    exact ⟨rfl, HB1.out⟩
  have hi3 : ¬ (40 : Int) < (n2 : Int) := by omega
  have hd3 : decide ((40 : Int) < (n2 : Int)) = false := by simpa using hi3
  by_cases hk : n = 16 ∧ n' = 16
  · obtain ⟨rfl, rfl⟩ := hk
    clear hl1 hl2 hi1 hi2 hd1 hd2
    have KT : Hid (∀ (W : World) (A A' : Option Addr) (xs ys : List UInt8) (c c' : Nat), Sq W W.heap.size A c (bvs xs) → Sq W W.heap.size A' c' (bvs ys) → xs.length = 16 → ys.length = 16 → Calls Try.prog 15 #[.slice A (16 : Nat) c, .slice A' (16 : Nat) c'] W fun e w' => ∃ A2 c2, e = .returned (.tuple #[.slice A2 (16 : Nat) c2, .bool true]) ∧ Sq w' w'.heap.size A2 c2 (bvs (timesL xs ys)) ∧ Below W.heap.size W w') := hid fun W A A' xs ys c c' h1 h2 h3 h4 =>
      (HTM.out A A' xs ys 16 16 c c' W h1 h2 h3 h4 (by omega) (by omega)).mono fun e w' h => by
        obtain ⟨h, hb⟩ := h
        rw [if_pos ⟨rfl, rfl⟩] at h
        obtain ⟨v, rfl, ho⟩ := h
        obtain ⟨A2, c2, rfl, hS⟩ := own_n ho (timesL_length _ _)
        exact ⟨A2, c2, rfl, hS.sq, hb⟩
    go_wp2_with fail
    refine (KT.out w1 A A' xs ys c c' (SX.out _ HB1.out) (SY.out _ HB1.out) HN.out HN'.out).mono ?_
    rintro e w2 ⟨Ap, cp, rfl, hP, hb2⟩
    have HB2 : Hid (Below w.heap.size w w2) := hid (HB1.out.trans (hb2.mono HB1.out.size))
    have HP := hid hP
    clear hP hb2
    go_wp2_with fail
    refine (Times12_any A A' xs ys 16 16 c c' w2 (SX.out _ HB2.out).lie (SY.out _ HB2.out).lie HN.out HN'.out rfl rfl).mono ?_
    rintro e w3 ⟨v3, rfl, ho3, hb3⟩
    obtain ⟨A3, c3, rfl, hS3⟩ := own_n ho3 (timesL_length _ _)
    have HB3 : Hid (Below w.heap.size w w3) := hid (HB2.out.trans (hb3.mono HB2.out.size))
    have HP3 : Hid (Sq w3 w3.heap.size Ap cp (bvs (timesL xs ys))) := hid (sq_on HP.out hb3)
    have KS : Hid (Calls Try.prog 10 #[.slice Ap (16 : Nat) cp, .slice A3 (16 : Nat) c3] w3 fun e w' => e = .returned (.bool true) ∧ ∃ n, w' = w3.drewN n) := hid (by
      have h := Same_any Ap (timesL xs ys) cp A3 (timesL xs ys) c3 w3 w3.heap.size w3.heap.size (sq_on HP.out hb3).lie hS3.lie (by rw [timesL_length]; omega)
      rw [timesL_length, beq_self_eq_true] at h
      exact h)
    clear ho3 hS3 hb3 HP
    go_wp2_with fail
    refine KS.out.mono ?_
    rintro e w4 ⟨rfl, k4, rfl⟩
    have HB4 : Hid (Below w.heap.size w (w3.drewN k4)) := hid ⟨HB3.out.os, HB3.out.tape, HB3.out.output, HB3.out.size, HB3.out.block⟩
    have HP4 : Hid (Sq (w3.drewN k4) (w3.drewN k4).heap.size Ap cp (bvs (timesL xs ys))) := HP3
    clear KS HB3 HP3
    generalize w3.drewN k4 = w4 at *
    by_cases hk2 : n2 = 16
    · subst hk2
      clear hl3 hi3 hd3
      have H0 : Hid ((w4.alloc (.cells (bR fun _ => 0) 5)).heap[w4.heap.size]? = some (.cells (bR fun j => if j < 0 then bf ys j ^^^ bf zs j else 0) 5 (0, 0))) := hid ((heap_alloc_new w4 _).trans (by
        have e : bR (fun _ => 0) = bR (fun j => if j < 0 then bf ys j ^^^ bf zs j else 0) := bR_congr fun j _ => by rw [if_neg (by omega)]
        rw [e]))
      have HB5 : Hid (Below w4.heap.size w4 (w4.alloc (.cells (bR fun _ => 0) 5))) := hid ((Below.refl _ _).alloc (Nat.le_refl _) _)
      go_wp2
      clear hmk
      generalize w4.alloc (.cells (bR fun _ => 0) 5) = w5 at *
      go_loopg [10] 16 (fun g ii wr => ∃ i : Nat, i + g = 16 ∧ ii = .int .i64 (i : Int) ∧ wr.heap[w4.heap.size]? = some (.cells (bR fun j => if j < i then bf ys j ^^^ bf zs j else 0) 5 (0, 0)) ∧ Below w4.heap.size w4 wr)
      case atStart => exact ⟨0, rfl, rfl, H0.out, HB5.out⟩
      case round =>
        clear H0 HB5
        obtain ⟨i, hk, rfl, h0, hb⟩ := hrel
        have HI := hid hk; have H0 := hid h0; have HB := hid hb
        have HBr : Hid (Below w.heap.size w wr) := hid (HB4.out.trans (hb.mono HB4.out.size))
        have hi16 : i ≤ 16 := by omega
        clear hk h0 hb
        by_cases hlt : i < 16
        · have hxi : (i : Int) < 16 := by omega
          have hi0 : (0 : Int) ≤ (i : Int) := by omega
          obtain ⟨gy, oy, rfl, hgy, hcy⟩ := own_cells (SY.out wr HBr.out) HN'.out (by decide)
          obtain ⟨gz, oz, rfl, hgz, hcz⟩ := own_cells (SZ.out wr HBr.out) HN2.out (by decide)
          have hcy1 := hcy i hlt
          have hcz1 := hcz i hlt
          clear hcy hcz
          obtain ⟨a, ha⟩ : ∃ a, a = bf ys i := ⟨_, rfl⟩
          obtain ⟨b, hb⟩ : ∃ b, b = bf zs i := ⟨_, rfl⟩
          rw [← ha] at hcy1; rw [← hb] at hcz1
          have hx : bits .xor .u8 (a : Int) (b : Int) = ((a ^^^ b : Nat) : Int) := u8x_nat a b (by rw [ha]; exact bf_lt _ _) (by rw [hb]; exact bf_lt _ _)
          have hfz : wr.frozen? ⟨w4.heap.size, i, none⟩ = false := frozen_of_row _ _ _ _ _ H0.out
          have hwi : IntKind.i64.wrap ((i : Int) + 1) = ((i + 1 : Nat) : Int) := (IntWalk.i64_in _ (by omega)).trans (by omega)
          have hct : wr.cell? ⟨w4.heap.size, i, none⟩ = some (.int .u8 ((0 : Nat) : Int)) := cell_of H0.out i _ ((bR_get _ (fun j => by split; exact xor_b (bf_lt _ _) (bf_lt _ _); decide) i hlt).trans (by rw [if_neg (Nat.lt_irrefl i)]))
          have HW : Hid ((wr.setCell ⟨w4.heap.size, i, none⟩ (.int .u8 ((a ^^^ b : Nat) : Int))).heap[w4.heap.size]? = some (.cells (bR fun j => if j < i + 1 then bf ys j ^^^ bf zs j else 0) 5 (0, 0))) := hid ((block_set H0.out i _).trans (by
            rw [bR_set _ _ _ (by rw [ha, hb]; exact xor_b (bf_lt _ _) (bf_lt _ _))]
            have e : bR (fun q => if q = i then a ^^^ b else if q < i then bf ys q ^^^ bf zs q else 0) = bR (fun j => if j < i + 1 then bf ys j ^^^ bf zs j else 0) := bR_congr fun j _ => by
              by_cases h : j = i
              · rw [if_pos h, if_pos (by omega), h, ha, hb]
              · rw [if_neg h]
                by_cases h2 : j < i
                · rw [if_pos h2, if_pos (by omega)]
                · rw [if_neg h2, if_neg (by omega)]
            rw [e]))
          clear ha hb hgy hgz
          go_wp2
          refine wp_region_still_tail 11 (by kernel_rfl) (by kernel_rfl) ?_
          simp only [List.take_succ_cons, List.take_zero, List.drop_succ_cons, List.drop_zero]
          repeat still_step
          refine wpStill_nil ?_
          change wpList _ _ _ _ _ wr.drew
          go_wp2
          have hi := HI.out
          go_roundg (16 - i - 1)
          case measure => omega
          case rel => exact ⟨i + 1, by omega, rfl, HW.out, (HB.out.setCell (by simp) _).drew⟩
        have hi16e : i = 16 := by omega
        have hxi : ¬ (i : Int) < 16 := by omega
        have hrow : wr.heap[w4.heap.size]? = some (.cells (bR fun j => bf ys j ^^^ bf zs j) 5 (0, 0)) := H0.out.trans (by
          have e : bR (fun j => if j < i then bf ys j ^^^ bf zs j else 0) = bR (fun j => bf ys j ^^^ bf zs j) := bR_congr fun j _ => by rw [if_pos (by omega)]
          rw [e])
        have hsum := row_sq12 hrow
        rw [blk_xor ys zs HN'.out HN2.out] at hsum
        have HSUMwr := hid hsum
        have HPwr := hid (sq_on HP4.out HB.out)
        have HBwr := HBr
        have HXL : Hid ((xorL ys zs).length = 16) := hid (by rw [xorL_length _ _ (by rw [HN'.out, HN2.out]; omega), HN'.out])
        clear hi16e hrow hsum HP4 HB HBr H0 HI HTM HB4 hlt hi16
        generalize w4.heap.size = gs at *
        go_wp2_with fail
        refine (KT.out wr A A2 xs zs _ _ (SX.out _ HBwr.out) (SZ.out _ HBwr.out) HN.out HN2.out).mono ?_
        rintro e wq ⟨AQ, cQ, rfl, hQ, hbQ⟩
        have HBwq : Hid (Below w.heap.size w wq) := hid (HBwr.out.trans (hbQ.mono HBwr.out.size))
        have HQwq := hid hQ
        have HSUMwq := hid (sq_on HSUMwr.out hbQ)
        have HPwq := hid (sq_on HPwr.out hbQ)
        clear hQ hbQ HBwr HSUMwr HPwr
        go_wp2_with fail
        refine (KT.out wq A (some ⟨gs, 0, none⟩) xs (xorL ys zs) _ _ (SX.out _ HBwq.out) HSUMwq.out HN.out HXL.out).mono ?_
        rintro e wt ⟨AR, cR, rfl, hR, hbR⟩
        have HBwt : Hid (Below w.heap.size w wt) := hid (HBwq.out.trans (hbR.mono HBwq.out.size))
        have HRwt := hid hR
        have HQwt := hid (sq_on HQwq.out hbR)
        have HPwt := hid (sq_on HPwq.out hbR)
        clear hR hbR HBwq HQwq HPwq
        go_wp2_with fail
        refine (KT.out wt Ap A2 (timesL xs ys) zs _ _ HPwt.out (SZ.out _ HBwt.out) (timesL_length _ _) HN2.out).mono ?_
        rintro e wu ⟨AS, cS, rfl, hS, hbS⟩
        have HBwu : Hid (Below w.heap.size w wu) := hid (HBwt.out.trans (hbS.mono HBwt.out.size))
        have HSwu := hid hS
        have HQwu := hid (sq_on HQwt.out hbS)
        have HPwu := hid (sq_on HPwt.out hbS)
        have HRwu := hid (sq_on HRwt.out hbS)
        clear hS hbS HBwt HQwt HPwt HRwt
        go_wp2_with fail
        refine (KT.out wu A' A2 ys zs _ _ (SY.out _ HBwu.out) (SZ.out _ HBwu.out) HN'.out HN2.out).mono ?_
        rintro e wv ⟨AT, cT, rfl, hT, hbT⟩
        have HBwv : Hid (Below w.heap.size w wv) := hid (HBwu.out.trans (hbT.mono HBwu.out.size))
        have HTwv := hid hT
        have HQwv := hid (sq_on HQwu.out hbT)
        have HPwv := hid (sq_on HPwu.out hbT)
        have HRwv := hid (sq_on HRwu.out hbT)
        have HSwv := hid (sq_on HSwu.out hbT)
        clear hT hbT HBwu HQwu HPwu HRwu HSwu
        go_wp2_with fail
        refine (KT.out wv A AT xs (timesL ys zs) _ _ (SX.out _ HBwv.out) HTwv.out HN.out (timesL_length _ _)).mono ?_
        rintro e wz ⟨AU, cU, rfl, hU, hbU⟩
        have HBwz : Hid (Below w.heap.size w wz) := hid (HBwv.out.trans (hbU.mono HBwv.out.size))
        have HUwz := hid hU
        have HQwz := hid (sq_on HQwv.out hbU)
        have HPwz := hid (sq_on HPwv.out hbU)
        have HRwz := hid (sq_on HRwv.out hbU)
        have HSwz := hid (sq_on HSwv.out hbU)
        clear hU hbU HBwv HQwv HPwv HRwv HSwv
        have HST : Hid (timesL xs (xorL ys zs) = xorL (timesL xs ys) (timesL xs zs)) := hid (timesL_xor xs ys zs HN'.out HN2.out)
        have KS : Hid (∀ k, Calls Try.prog 10 #[.slice AS (16 : Nat) cS, .slice AU (16 : Nat) cU] (wz.drewN k) fun e w' => e = .returned (.bool true) ∧ ∃ n, w' = (wz.drewN k).drewN n) := hid (fun k => by
          have h := Same_any AS (timesL (timesL xs ys) zs) cS AU (timesL xs (timesL ys zs)) cU (wz.drewN k) wz.heap.size wz.heap.size (HSwz.out.lie.drewN k) (HUwz.out.lie.drewN k) (by rw [timesL_length]; omega)
          rw [timesL_assoc, timesL_length, beq_self_eq_true] at h
          exact h)
        obtain ⟨gr, or_, hAR, hgr, hcr⟩ := own_cells HRwz.out (timesL_length _ _) (by decide)
        obtain ⟨gp, op, hAP, hgp, hcp⟩ := own_cells HPwz.out (timesL_length _ _) (by decide)
        obtain ⟨gq, oq, hAQ, hgq, hcq⟩ := own_cells HQwz.out (timesL_length _ _) (by decide)
        subst hAR; subst hAP; subst hAQ
        have HCR := hid hcr; have HCP := hid hcp; have HCQ := hid hcq
        clear hgr hgp hgq hcr hcp hcq KT SX SY SZ HN HXL HRwz HPwz HQwz HSwz HUwz
        go_wp2
        go_loopg [21] 16 (fun g ii wr => ∃ i k : Nat, i + g = 16 ∧ ii = .int .i64 (i : Int) ∧ wr = wz.drewN k)
        case atStart => exact ⟨0, 0, rfl, rfl, rfl⟩
        case round =>
          obtain ⟨i, k, hk, rfl, rfl⟩ := hrel
          have HI := hid hk
          have hi16 : i ≤ 16 := by omega
          clear hk
          by_cases hlt : i < 16
          · have hxi2 : (i : Int) < 16 := by omega
            have hi0 : (0 : Int) ≤ (i : Int) := by omega
            have hcr := HCR.out i hlt
            have hcp := HCP.out i hlt
            have hcq := HCQ.out i hlt
            rw [HST.out, bf_xorL _ _ i (by rw [timesL_length]; exact hlt) (by rw [timesL_length, timesL_length]; omega)] at hcr
            obtain ⟨a, ha⟩ : ∃ a, a = bf (timesL xs ys) i := ⟨_, rfl⟩
            obtain ⟨b, hb⟩ : ∃ b, b = bf (timesL xs zs) i := ⟨_, rfl⟩
            rw [← ha, ← hb] at hcr; rw [← ha] at hcp; rw [← hb] at hcq
            have hx : bits .xor .u8 (a : Int) (b : Int) = ((a ^^^ b : Nat) : Int) := u8x_nat a b (by rw [ha]; exact bf_lt _ _) (by rw [hb]; exact bf_lt _ _)
            have hwi : IntKind.i64.wrap ((i : Int) + 1) = ((i + 1 : Nat) : Int) := (IntWalk.i64_in _ (by omega)).trans (by omega)
            clear ha hb
            go_wp2
            go_quiet (fail)
            go_wp2
            have hi := HI.out
            go_roundg (16 - i - 1)
            case measure => omega
            case rel => exact ⟨i + 1, _, by omega, rfl, rfl⟩
          · have hxi2 : ¬ (i : Int) < 16 := by omega
            go_wp2_with fail
            refine (KS.out k).mono ?_
            rintro e wE ⟨rfl, kE, rfl⟩
            go_wp2
            go_ret
            exact ⟨rfl, ⟨HBwz.out.os, HBwz.out.tape, HBwz.out.output, HBwz.out.size, HBwz.out.block⟩⟩
    · have hke : ((n2 : Int) != 16) = true := by simp [bne_iff_ne]; omega
      go_wp2
      go_ret
      exact ⟨rfl, HB4.out⟩
  · have hke : ((n : Int) == 16 && (n' : Int) == 16) = false := by
      rw [Bool.and_eq_false_iff, beq_eq_false_iff_ne, beq_eq_false_iff_ne]; omega
    have HK := hid hk
    have KT := hid (HTM.out A A' xs ys n n' c c' w1 (SX.out _ HB1.out) (SY.out _ HB1.out) HN.out HN'.out (by omega) (by omega))
    clear hk
    go_wp2_with fail
    refine KT.out.mono ?_
    rintro e w2 ⟨h, hb2⟩
    rw [if_neg HK.out] at h
    obtain ⟨Ap, cp, rfl⟩ := h
    have HB2 : Hid (Below w.heap.size w w2) := hid (HB1.out.trans (hb2.mono HB1.out.size))
    clear hb2 KT
    by_cases h1 : n = 16
    · have h2 : ((n : Int) == 16) = true := by rw [h1]; rfl
      have h3 : ((n' : Int) == 16) = false := by rw [beq_eq_false_iff_ne]; have := HK.out; omega
      clear h1 hke
      go_wp2
      go_ret
      exact ⟨rfl, HB2.out⟩
    · have h2 : ((n : Int) == 16) = false := by rw [beq_eq_false_iff_ne]; omega
      clear h1 hke
      go_wp2
      go_ret
      exact ⟨rfl, HB2.out⟩
end Go.Proofs.Ytojlmlmjmlbjmaa
end
section
namespace Go.Proofs.Ytojlmlmjmlbjmaa
open Go.RowKit
set_option linter.unusedVariables false
set_option linter.unusedSimpArgs false
set_option maxRecDepth 100000 in
set_option maxHeartbeats 4000000 in
theorem opens12_any (hSl : SealOk) (hOp : OpenOk) (A A' A2 A3 : Option Addr) (key nonce sealed more : List UInt8) (m m' n2 n3 c c' c2 c3 : Nat) (w : World) (hX : Sq w w.heap.size A c (bvs key)) (hY : Sq w w.heap.size A' c' (bvs nonce)) (hZ : Sq w w.heap.size A2 c2 (bvs sealed)) (hM : Sq w w.heap.size A3 c3 (bvs more)) (hn : key.length = m) (hn' : nonce.length = m') (hn2 : sealed.length = n2) (hn3 : more.length = n3) :
    Calls Try.prog 4 #[.slice A m c, .slice A' m' c', .slice A2 n2 c2, .slice A3 n3 c3] w fun e w' => e = .returned (.bool true) ∧ Below w.heap.size w w' := by
  have KA := hid (alive12_any hSl w)
  have SX : Hid (∀ W, Below w.heap.size w W → Sq W W.heap.size A c (bvs key)) := hid fun W h => sq_on hX h
  have SY : Hid (∀ W, Below w.heap.size w W → Sq W W.heap.size A' c' (bvs nonce)) := hid fun W h => sq_on hY h
  have SZ : Hid (∀ W, Below w.heap.size w W → Sq W W.heap.size A2 c2 (bvs sealed)) := hid fun W h => sq_on hZ h
  have SM : Hid (∀ W, Below w.heap.size w W → Sq W W.heap.size A3 c3 (bvs more)) := hid fun W h => sq_on hM h
  have HN := hid hn; have HN' := hid hn'; have HN2 := hid hn2; have HN3 := hid hn3
  have HOP := hid hOp
  have hnb : ∀ (W : World) (p q : Bool), (binOp .neq 4 (.bool p) (.bool q)).run Try.prog W = .ok (.bool (!(p == q))) W := fun W p q => run_neq_bool W 4 p q Try.underlying4
  clear hX hY hZ hM hSl hOp hn hn' hn2 hn3
  go_enter Try.func4, Try.ntmps4
  go_wp2_with fail
  refine KA.out.mono ?_
  rintro e w1 ⟨rfl, hb1⟩
  have HB1 := hid hb1
  clear hb1 KA
  by_cases hk : m = 16
  case neg =>
    have hke : ((m : Int) != 16) = true := by simp [bne_iff_ne]; omega
    go_wp2
    go_ret
    exact ⟨rfl, HB1.out⟩
  case pos =>
  subst hk
  by_cases hk : m' = 12
  case neg =>
    have hke : ((m' : Int) != 12) = true := by simp [bne_iff_ne]; omega
    go_wp2
    go_ret
    exact ⟨rfl, HB1.out⟩
  case pos =>
  subst hk
  by_cases hl2 : 100 < n2
  · have hi : (100 : Int) < (n2 : Int) := by omega
    have hd : decide ((100 : Int) < (n2 : Int)) = true := by simpa using hi
    go_wp2
    go_ret
    exact ⟨rfl, HB1.out⟩
  have hi2 : ¬ (100 : Int) < (n2 : Int) := by omega
  have hd2 : decide ((100 : Int) < (n2 : Int)) = false := by simpa using hi2
  by_cases hl3 : 60 < n3
  · have hi : (60 : Int) < (n3 : Int) := by omega
    have hd : decide ((60 : Int) < (n3 : Int)) = true := by simpa using hi
    go_wp2
    go_ret
    exact ⟨rfl, HB1.out⟩
  have hi3 : ¬ (60 : Int) < (n3 : Int) := by omega
  have hd3 : decide ((60 : Int) < (n3 : Int)) = false := by simpa using hi3
  have KO := hid (HOP.out A A' A2 A3 key nonce sealed more 16 12 n2 n3 c c' c2 c3 w1 (SX.out _ HB1.out) (SY.out _ HB1.out) (SZ.out _ HB1.out) (SM.out _ HB1.out) HN.out HN'.out HN2.out HN3.out (by omega) (by omega) (by omega) (by omega))
  by_cases hs : n2 < 16
  · have hsi : (n2 : Int) < 16 := by omega
    have hno : ¬ opens key nonce sealed more := fun h => by have := h.2.2.1; have := HN2.out; omega
    have HNO := hid hno
    clear hno
    go_wp2_with fail
    refine KO.out.mono ?_
    rintro e w2 ⟨h, hb2⟩
    rw [if_neg HNO.out] at h
    obtain ⟨At, ct, rfl⟩ := h
    have HB2 : Hid (Below w.heap.size w w2) := hid (HB1.out.trans (hb2.mono HB1.out.size))
    clear hb2 KO
    go_wp2
    go_ret
    exact ⟨rfl, HB2.out⟩
  have hsi : ¬ (n2 : Int) < 16 := by omega
  obtain ⟨n, hnd⟩ : ∃ n, n = n2 - 16 := ⟨_, rfl⟩
  have hwn : IntKind.i64.wrap ((n2 : Int) - 16) = (n : Int) := (IntWalk.i64_in _ (by omega)).trans (by omega)
  obtain ⟨b2, o2, hA2, hgb, -⟩ := own_cells (SZ.out w1 HB1.out) HN2.out (by omega)
  subst hA2
  have hcap := (SZ.out w1 HB1.out).cap
  rw [bvs_length, HN2.out] at hcap
  obtain ⟨hc1, hc2⟩ := hcap
  have q1 : (0 : Int) ≤ (n : Int) := Int.natCast_nonneg n
  have q2 : (n : Int) ≤ (n2 : Int) := by omega
  have q3 : (n2 : Int) ≤ (c2 : Int) := by omega
  have q4 : (n : Int) ≤ (c2 : Int) := by omega
  have q5 : (n : Int) < (c2 : Int) := by omega
  have q6 : (n : Int) < (n2 : Int) := by omega
  have q7 : n < c2 := by omega
  have HLD : Hid (n2 - n = 16 ∧ n ≤ 84 ∧ n2 - 16 = n) := hid (by omega)
  have LD : Hid (∀ W, Below w.heap.size w W → Lie W W.heap.size (some ⟨b2, o2 + n, none⟩) (bvs (sealed.drop n))) := hid fun W h => by
    have h2 := (SZ.out W h).lie.drop n
    simpa [bvs, List.map_drop] using h2
  have LT : Hid (∀ W, Below w.heap.size w W → Lie W W.heap.size (some ⟨b2, o2, none⟩) (bvs (sealed.take n))) := hid fun W h => by
    have h2 := (SZ.out W h).lie.take n
    simpa [bvs, List.map_take] using h2
  have hlt : (sealed.take n).length = n := by rw [List.length_take, HN2.out]; omega
  have hld : (sealed.drop n).length = n2 - n := by rw [List.length_drop, HN2.out]
  obtain ⟨T, hT⟩ : ∃ T, T = tagL key nonce (sealed.take n) more := ⟨_, rfl⟩
  have hTl : T.length = 16 := by rw [hT, tagL_length]
  obtain ⟨X, hX⟩ : ∃ X, X = maskedL key nonce (sealed.take n) := ⟨_, rfl⟩
  have hXl : X.length = n := by rw [hX, maskedL_length, hlt]
  have KG : Hid (∀ (W : World) (Ab : Option Addr) (cb : Nat), Below w.heap.size w W → Ints W W.heap.size Ab cb boxN 256 → Calls Try.prog 13 #[.slice A (16 : Nat) c, .slice A' (12 : Nat) c', .slice (some ⟨b2, o2, none⟩) n c2, .slice A3 n3 c3, .slice Ab (256 : Nat) cb] W fun e w' => ∃ At ct, e = .returned (.slice At 16 ct) ∧ Sq w' w'.heap.size At ct (bvs T) ∧ Below W.heap.size W w') := hid fun W Ab cb hb hI =>
    (Tag12_any A A' (some ⟨b2, o2, none⟩) A3 Ab key nonce (sealed.take n) more 16 12 n n3 256 c c' c2 c3 cb W (SX.out _ hb) (SY.out _ hb) (LT.out _ hb) (SM.out _ hb).lie HN.out HN'.out rfl rfl rfl hI hlt HN3.out (by omega) (by omega)).mono fun e w' h => by
      obtain ⟨v, rfl, ho, hb⟩ := h
      rw [← hT] at ho
      obtain ⟨Ad, cd, rfl, hq⟩ := own_n ho hTl
      exact ⟨Ad, cd, rfl, hq.sq, hb⟩
  have KM : Hid (∀ (W : World) (Ab : Option Addr) (cb : Nat), Below w.heap.size w W → Ints W W.heap.size Ab cb boxN 256 → Calls Try.prog 14 #[.slice A (16 : Nat) c, .slice A' (12 : Nat) c', .slice (some ⟨b2, o2, none⟩) n c2, .slice Ab (256 : Nat) cb] W fun e w' => ∃ At ct, e = .returned (.slice At n ct) ∧ Sq w' w'.heap.size At ct (bvs X) ∧ Below W.heap.size W w') := hid fun W Ab cb hb hI =>
    (Masked12_any A A' (some ⟨b2, o2, none⟩) Ab key nonce (sealed.take n) 16 12 n 256 c c' c2 cb W (SX.out _ hb) (SY.out _ hb) (LT.out _ hb) HN.out HN'.out hlt rfl rfl rfl hI (by omega)).mono fun e w' h => by
      obtain ⟨v, rfl, ho, hb⟩ := h
      rw [← hX] at ho
      obtain ⟨Ad, cd, rfl, hq⟩ := own_n ho hXl
      exact ⟨Ad, cd, rfl, hq.sq, hb⟩
  have KE : Hid (∀ (W : World) (At : Option Addr) (ct : Nat), Below w.heap.size w W → Sq W W.heap.size At ct (bvs T) → Calls Try.prog 10 #[.slice (some ⟨b2, o2 + n, none⟩) (n2 - n) (c2 - n), .slice At (16 : Nat) ct] W fun e w' => e = .returned (.bool (decide (opens key nonce sealed more))) ∧ ∃ n, w' = W.drewN n) := hid fun W At ct hb hq => by
    have h := Same_any (some ⟨b2, o2 + n, none⟩) (sealed.drop n) (c2 - n) At T ct W W.heap.size W.heap.size (LD.out W hb) hq.lie (by rw [hld]; omega)
    rw [hld, hTl] at h
    have hiff : opens key nonce sealed more ↔ sealed.drop n = T := by
      rw [hT]
      constructor
      · rintro ⟨_, _, _, h⟩
        rwa [HN2.out, HLD.out.2.2] at h
      · intro h
        refine ⟨HN.out, HN'.out, by rw [HN2.out]; omega, ?_⟩
        rw [HN2.out, HLD.out.2.2]; exact h
    have e : (sealed.drop n == T) = decide (opens key nonce sealed more) := by
      by_cases hh : sealed.drop n = T
      · rw [decide_eq_true (hiff.2 hh), hh, beq_self_eq_true]
      · rw [beq_eq_false_iff_ne.2 hh, decide_eq_false (fun hc => hh (hiff.1 hc))]
    rwa [e] at h
  rw [HN2.out, HLD.out.2.2, ← hX] at KO
  have HXl := hid hXl
  clear hs hnd hgb hc1 hc2 hlt hld hT hTl hX hXl HOP LT SX SY SM SZ hl2 hl3
  by_cases hop : opens key nonce sealed more
  · have hdec : decide (opens key nonce sealed more) = true := by simpa using hop
    rw [hdec] at KE
    have HOPN := hid hop
    clear hop hdec
    go_wp2_with fail
    refine KO.out.mono ?_
    rintro e w2 ⟨h, hb2⟩
    rw [if_pos HOPN.out] at h
    obtain ⟨v2, rfl, ho2⟩ := h
    obtain ⟨Av, cv, rfl, hqv⟩ := own_n ho2 HXl.out
    have HB2 : Hid (Below w.heap.size w w2) := hid (HB1.out.trans (hb2.mono HB1.out.size))
    have HV2 := hid hqv.sq
    clear ho2 hb2 KO hqv HB1
    go_wp2_with fail
    refine (Boxes11_any w2).mono ?_
    rintro e w3 ⟨Ab, cb, rfl, hI, hb3⟩
    have HB3 : Hid (Below w.heap.size w w3) := hid (HB2.out.trans (hb3.mono HB2.out.size))
    have HI3 : Hid (∀ W, Below w3.heap.size w3 W → Ints W W.heap.size Ab cb boxN 256) := hid fun W h => (hI.below h).more h.size
    have HV3 := hid (sq_on HV2.out hb3)
    clear hI hb3 HV2 HB2
    have KG3 : Hid (∀ W, Below w3.heap.size w3 W → Calls Try.prog 13 #[.slice A (16 : Nat) c, .slice A' (12 : Nat) c', .slice (some ⟨b2, o2, none⟩) n c2, .slice A3 n3 c3, .slice Ab (256 : Nat) cb] W fun e w' => ∃ At ct, e = .returned (.slice At 16 ct) ∧ Sq w' w'.heap.size At ct (bvs T) ∧ Below w3.heap.size w3 w') := hid fun W h =>
      (KG.out W Ab cb (HB3.out.trans (h.mono HB3.out.size)) (HI3.out W h)).mono fun e w' hh => by
        obtain ⟨At, ct, he, hq, hb⟩ := hh
        exact ⟨At, ct, he, hq, h.trans (hb.mono h.size)⟩
    have KE3 : Hid (∀ (W : World) (At : Option Addr) (ct : Nat), Below w3.heap.size w3 W → Sq W W.heap.size At ct (bvs T) → Calls Try.prog 10 #[.slice (some ⟨b2, o2 + n, none⟩) (n2 - n) (c2 - n), .slice At (16 : Nat) ct] W fun e w' => e = .returned (.bool true) ∧ Below w3.heap.size w3 w') := hid fun W At ct h hq =>
      (KE.out W At ct (HB3.out.trans (h.mono HB3.out.size)) hq).mono fun e w' hh => by
        obtain ⟨he, k, rfl⟩ := hh
        exact ⟨he, h.os, h.tape, h.output, h.size, h.block⟩
    have hB0 : Below w3.heap.size w3 w3.drew := (Below.refl _ _).drew
    have hB00 : Below w3.heap.size w3 w3 := Below.refl _ _
    go_wp2_with fail
    go_region_held3 (fun W => Below w3.heap.size w3 W)
      (first | exact hB0 | exact hB00 | assumption | exact Below.drew (by assumption))
      (first
        | (go_at_call 13; refine (KG3.out _ (by first | exact hB0 | exact hB00 | assumption)).mono ?_; rintro e w4 ⟨At, ct, rfl, hq4, hB4⟩)
        | (go_at_call 10; refine (KE3.out _ _ _ (by first | exact hB4 | assumption) (by first | exact hq4)).mono ?_; rintro e w5 ⟨rfl, hB5⟩))
    all_goals
      have HB5 : Hid (Below w.heap.size w w5) := hid (HB3.out.trans (hB5.mono HB3.out.size))
      have HI5 := hid (HI3.out w5 hB5)
      have HV5 := hid (sq_on HV3.out hB5)
      clear hB0 hB00 hB4 hB5 hq4 KG3 KE3 KG KE HV3 HI3 HB3
      go_wp2_with fail
      refine (KM.out w5 Ab cb HB5.out HI5.out).mono ?_
      rintro e w6 ⟨Am, cm, rfl, hq6, hb6⟩
      have HB6 : Hid (Below w.heap.size w w6) := hid (HB5.out.trans (hb6.mono HB5.out.size))
      have KS : Hid (Calls Try.prog 10 #[.slice Av n cv, .slice Am n cm] w6 fun e w' => e = .returned (.bool true) ∧ ∃ n, w' = w6.drewN n) := hid (by
        have h := Same_any Av X cv Am X cm w6 w6.heap.size w6.heap.size (sq_on HV5.out hb6).lie hq6.lie (by rw [HXl.out]; have := HLD.out.2.1; omega)
        rwa [HXl.out, beq_self_eq_true] at h)
      clear hq6 hb6 HV5 HB5 KM
      go_wp2_with fail
      refine KS.out.mono ?_
      rintro e w7 ⟨rfl, k7, rfl⟩
      go_wp2
      go_ret
      exact ⟨rfl, ⟨HB6.out.os, HB6.out.tape, HB6.out.output, HB6.out.size, HB6.out.block⟩⟩
  · have hdec : decide (opens key nonce sealed more) = false := by simpa using hop
    rw [hdec] at KE
    have HOPN := hid hop
    clear hop hdec KM
    go_wp2_with fail
    refine KO.out.mono ?_
    rintro e w2 ⟨h, hb2⟩
    rw [if_neg HOPN.out] at h
    obtain ⟨Av, cv, rfl⟩ := h
    have HB2 : Hid (Below w.heap.size w w2) := hid (HB1.out.trans (hb2.mono HB1.out.size))
    clear hb2 KO HB1
    go_wp2_with fail
    refine (Boxes11_any w2).mono ?_
    rintro e w3 ⟨Ab, cb, rfl, hI, hb3⟩
    have HB3 : Hid (Below w.heap.size w w3) := hid (HB2.out.trans (hb3.mono HB2.out.size))
    have HI3 : Hid (∀ W, Below w3.heap.size w3 W → Ints W W.heap.size Ab cb boxN 256) := hid fun W h => (hI.below h).more h.size
    clear hI hb3 HB2
    have KG3 : Hid (∀ W, Below w3.heap.size w3 W → Calls Try.prog 13 #[.slice A (16 : Nat) c, .slice A' (12 : Nat) c', .slice (some ⟨b2, o2, none⟩) n c2, .slice A3 n3 c3, .slice Ab (256 : Nat) cb] W fun e w' => ∃ At ct, e = .returned (.slice At 16 ct) ∧ Sq w' w'.heap.size At ct (bvs T) ∧ Below w3.heap.size w3 w') := hid fun W h =>
      (KG.out W Ab cb (HB3.out.trans (h.mono HB3.out.size)) (HI3.out W h)).mono fun e w' hh => by
        obtain ⟨At, ct, he, hq, hb⟩ := hh
        exact ⟨At, ct, he, hq, h.trans (hb.mono h.size)⟩
    have KE3 : Hid (∀ (W : World) (At : Option Addr) (ct : Nat), Below w3.heap.size w3 W → Sq W W.heap.size At ct (bvs T) → Calls Try.prog 10 #[.slice (some ⟨b2, o2 + n, none⟩) (n2 - n) (c2 - n), .slice At (16 : Nat) ct] W fun e w' => e = .returned (.bool false) ∧ Below w3.heap.size w3 w') := hid fun W At ct h hq =>
      (KE.out W At ct (HB3.out.trans (h.mono HB3.out.size)) hq).mono fun e w' hh => by
        obtain ⟨he, k, rfl⟩ := hh
        exact ⟨he, h.os, h.tape, h.output, h.size, h.block⟩
    have hB0 : Below w3.heap.size w3 w3.drew := (Below.refl _ _).drew
    have hB00 : Below w3.heap.size w3 w3 := Below.refl _ _
    go_wp2_with fail
    go_region_held3 (fun W => Below w3.heap.size w3 W)
      (first | exact hB0 | exact hB00 | assumption | exact Below.drew (by assumption))
      (first
        | (go_at_call 13; refine (KG3.out _ (by first | exact hB0 | exact hB00 | assumption)).mono ?_; rintro e w4 ⟨At, ct, rfl, hq4, hB4⟩)
        | (go_at_call 10; refine (KE3.out _ _ _ (by first | exact hB4 | assumption) (by first | exact hq4)).mono ?_; rintro e w5 ⟨rfl, hB5⟩))
    all_goals
      have HB5 : Hid (Below w.heap.size w w5) := hid (HB3.out.trans (hB5.mono HB3.out.size))
      clear hB0 hB00 hB4 hB5 hq4 KG3 KE3 KG KE HI3 HB3
      go_wp2
      go_ret
      exact ⟨rfl, HB5.out⟩
end Go.Proofs.Ytojlmlmjmlbjmaa
end
