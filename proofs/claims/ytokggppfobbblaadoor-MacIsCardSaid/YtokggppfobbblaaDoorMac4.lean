/-
  Package mac: the same bytes; is it the tag.
-/
import Derived.Test.YtokggppfobbblaaDoorMac3
namespace Go.Proofs.YtokggppfobbblaaDoor
open Go.RowKit
set_option linter.unusedVariables false
set_option linter.unusedSimpArgs false

/-- What differs in the first k bytes, held together, with n at first. -/
def diffs (xs ys : List UInt8) (n : Nat) : Nat → Nat
  | 0 => n
  | k + 1 => diffs xs ys n k ||| (xs.getD k 0 ^^^ ys.getD k 0).toNat
theorem diffs_lt (xs ys : List UInt8) (n k : Nat) (hn : n < 9223372036854775808) : diffs xs ys n k < 9223372036854775808 := by
  induction k with
  | zero => exact hn
  | succ k ih =>
    have := (xs.getD k 0 ^^^ ys.getD k 0).toNat_lt
    exact Nat.or_lt_two_pow (n := 63) ih (by omega)
theorem diffs_zero (xs ys : List UInt8) (n k : Nat) : diffs xs ys n k = 0 ↔ n = 0 ∧ ∀ j, j < k → xs.getD j 0 = ys.getD j 0 := by
  induction k with
  | zero => simp [diffs]
  | succ k ih =>
    have hx : ∀ a b : UInt8, (a ^^^ b).toNat = 0 ↔ a = b := fun a b => by
      constructor
      · intro h
        have : a ^^^ b = 0 := UInt8.toNat_inj.1 h
        exact UInt8.xor_eq_zero_iff.1 this
      · rintro rfl; simp
    rw [diffs, Nat.or_eq_zero_iff, ih, hx]
    constructor
    · rintro ⟨⟨h1, h2⟩, h3⟩
      refine ⟨h1, fun j hj => ?_⟩
      rcases Nat.lt_succ_iff_lt_or_eq.1 hj with h | rfl
      · exact h2 j h
      · exact h3
    · rintro ⟨h1, h2⟩
      exact ⟨⟨h1, fun j hj => h2 j (by omega)⟩, h2 k (by omega)⟩
theorem nat_xor_zero {a b : Nat} (h : a ^^^ b = 0) : a = b := by
  apply Nat.eq_of_testBit_eq
  intro i
  have := congrArg (fun n => n.testBit i) h
  simp only [Nat.testBit_xor, Nat.zero_testBit] at this
  simpa using this
theorem diffs_same (xs ys : List UInt8) : (diffs xs ys (xs.length ^^^ ys.length) (max xs.length ys.length) = 0) ↔ xs = ys := by
  rw [diffs_zero]
  constructor
  · rintro ⟨h1, h2⟩
    have hl : xs.length = ys.length := nat_xor_zero h1
    apply List.ext_getElem hl
    intro i h3 h4
    have h := h2 i (by omega)
    rwa [List.getD_eq_getElem?_getD, List.getD_eq_getElem?_getD, List.getElem?_eq_getElem h3, List.getElem?_eq_getElem h4] at h
  · rintro rfl
    exact ⟨Nat.xor_self _, fun _ _ => rfl⟩

theorem ofInt_n64 (a : Nat) (ha : a < 9223372036854775808) : (BitVec.ofInt 64 (a : Int)).toNat = a := by
  rw [BitVec.ofInt_natCast, BitVec.toNat_ofNat]; exact Nat.mod_eq_of_lt (by omega)
theorem i64_xor_nat (a b : Nat) (ha : a < 9223372036854775808) (hb : b < 9223372036854775808) : bits .xor .i64 (a : Int) (b : Int) = ((a ^^^ b : Nat) : Int) := by
  have hx : a ^^^ b < 2 ^ 63 := Nat.xor_lt_two_pow (by omega) (by omega)
  show IntKind.i64.wrap ((BitVec.ofInt 64 (a : Int) ^^^ BitVec.ofInt 64 (b : Int)).toNat : Int) = _
  rw [BitVec.toNat_xor, ofInt_n64 a ha, ofInt_n64 b hb]
  exact IntWalk.i64_in _ (by omega)
theorem i64_or_nat (a b : Nat) (ha : a < 9223372036854775808) (hb : b < 9223372036854775808) : bits .or .i64 (a : Int) (b : Int) = ((a ||| b : Nat) : Int) := by
  have hx : a ||| b < 2 ^ 63 := Nat.or_lt_two_pow (by omega) (by omega)
  show IntKind.i64.wrap ((BitVec.ofInt 64 (a : Int) ||| BitVec.ofInt 64 (b : Int)).toNat : Int) = _
  rw [BitVec.toNat_or, ofInt_n64 a ha, ofInt_n64 b hb]
  exact IntWalk.i64_in _ (by omega)

set_option maxRecDepth 100000 in
set_option maxHeartbeats 800000 in
theorem msame_loop {Q : Exit → Act → World → Prop} (A : Option Addr) (xs : List UInt8) (c : Nat) (A' : Option Addr) (ys : List UInt8) (c' m : Nat) (w : World) (B B' : Nat) (t2 t3 t4 t6 t7 t8 t9 t10 t11 t12 t13 t14 t15 t18 t19 t20 t21 t22 t23 t24 t25 t26 t27 t28 t29 t30 t31 t32 : Value) (hA : Lie w B A (bvs xs)) (hA' : Lie w B' A' (bvs ys)) (hx : xs.length ≤ 140737488355328) (hy : ys.length ≤ 140737488355328) (hm : m ≤ 140737488355328)
    (hexit : ∀ u6 u17 u18 u19 u20 u21 u22 u23 u24 u25 u26 u27 u28 u29 u30 : Value, Q (.exit 0) ⟨((.slice A xs.length c) :: (.slice A' ys.length c') :: t2 :: t3 :: t4 :: (.int .i64 ((diffs xs ys (xs.length ^^^ ys.length) m : Nat) : Int)) :: u6 :: t7 :: t8 :: t9 :: t10 :: t11 :: t12 :: t13 :: t14 :: t15 :: (.int .i64 (m : Int)) :: u17 :: u18 :: u19 :: u20 :: u21 :: u22 :: u23 :: u24 :: u25 :: u26 :: u27 :: u28 :: u29 :: u30 :: t31 :: t32 :: []).toArray, []⟩ w) :
    Code.wp Tryd.prog (Code.loop (loopN Tryd.f23 0)) Q ⟨((.slice A xs.length c) :: (.slice A' ys.length c') :: t2 :: t3 :: t4 :: (.int .i64 ((xs.length ^^^ ys.length : Nat) : Int)) :: t6 :: t7 :: t8 :: t9 :: t10 :: t11 :: t12 :: t13 :: t14 :: t15 :: (.int .i64 (m : Int)) :: (.int .i64 0) :: t18 :: t19 :: t20 :: t21 :: t22 :: t23 :: t24 :: t25 :: t26 :: t27 :: t28 :: t29 :: t30 :: t31 :: t32 :: []).toArray, []⟩ w := by
  conv => arg 2; arg 1; whnf
  have HA := hid hA; have HA' := hid hA'
  have hdl : ∀ k, diffs xs ys (xs.length ^^^ ys.length) k < 9223372036854775808 := fun k => diffs_lt _ _ _ _ (Nat.xor_lt_two_pow (n := 63) (by omega) (by omega))
  have HDL := hid hdl
  clear hA hA' hdl
  go_loopg [5, 17] m (fun g d i wr => ∃ k e : Nat, k + g = m ∧ i = .int .i64 (k : Int) ∧ d = .int .i64 (e : Int) ∧ e = diffs xs ys (xs.length ^^^ ys.length) k ∧ wr = w)
  case atStart => exact ⟨0, _, by omega, rfl, rfl, rfl, rfl⟩
  case round =>
    obtain ⟨k, e, hk, rfl, rfl, he, rfl⟩ := hrel
    have hel : e < 9223372036854775808 := by rw [he]; exact HDL.out k
    have HK := hid hk; have HE := hid he
    have hkm : k ≤ m := by omega
    clear hk he
    by_cases hlt : k < m
    · have hki : (k : Int) < (m : Int) := by omega
      have hk0 : (0 : Int) ≤ (k : Int) := by omega
      obtain ⟨x, hxx⟩ : ∃ x, x = xs.getD k 0 := ⟨_, rfl⟩
      obtain ⟨y, hyy⟩ : ∃ y, y = ys.getD k 0 := ⟨_, rfl⟩
      have HC := hid (at_any A xs c k wr B HA.out)
      have HC' := hid (at_any A' ys c' k wr B' HA'.out)
      rw [← hxx] at HC
      rw [← hyy] at HC'
      obtain ⟨z, hz⟩ : ∃ z, z = (x ^^^ y).toNat := ⟨_, rfl⟩
      have hzl : z < 256 := by rw [hz]; exact (x ^^^ y).toNat_lt
      have hxor : bits .xor .u8 (x.toNat : Int) (y.toNat : Int) = (z : Int) := by rw [hz]; exact xor_u8 x y
      have hw : IntKind.i64.wrap (z : Int) = (z : Int) := IntWalk.i64_in _ (by omega)
      have hor : bits .or .i64 (e : Int) (z : Int) = ((e ||| z : Nat) : Int) := i64_or_nat _ _ hel (by omega)
      have hnext : (e ||| z) = diffs xs ys (xs.length ^^^ ys.length) (k + 1) := by rw [diffs, ← HE.out, ← hxx, ← hyy, ← hz]
      have HN := hid hnext
      clear hexit hxx hyy hz hnext hel
      go_wp2_with fail
      refine HC.out.mono ?_
      rintro _ w2 ⟨rfl, rfl⟩
      go_wp2_with fail
      refine HC'.out.mono ?_
      rintro _ w2 ⟨rfl, rfl⟩
      clear HC HC'
      go_wp2
      have hk := HK.out
      go_roundg (m - k - 1)
      case measure => omega
      case rel => exact ⟨k + 1, e ||| z, by omega, by go_num, rfl, HN.out, rfl⟩
    · obtain rfl : k = m := by omega
      have hki : ¬ (k : Int) < (k : Int) := by omega
      have he := HE.out
      subst he
      clear HE HK
      go_wp2
      exact hexit _ _ _ _ _ _ _ _ _ _ _ _ _ _ _

set_option maxHeartbeats 800000 in
theorem MSame_any (A : Option Addr) (xs : List UInt8) (c : Nat) (A' : Option Addr) (ys : List UInt8) (c' : Nat) (w : World) (B B' : Nat) (hA : Lie w B A (bvs xs)) (hA' : Lie w B' A' (bvs ys)) (hx : xs.length ≤ 140737488355328) (hy : ys.length ≤ 140737488355328) :
    Calls Tryd.prog 23 #[.slice A xs.length c, .slice A' ys.length c'] w fun e w' => e = .returned (.bool (xs == ys)) ∧ w = w' := by
  have hxl : bits .xor .i64 (xs.length : Int) (ys.length : Int) = ((xs.length ^^^ ys.length : Nat) : Int) := i64_xor_nat _ _ (by omega) (by omega)
  have HA := hid hA; have HA' := hid hA'
  have HE : ∀ m, m = max xs.length ys.length → Hid (((diffs xs ys (xs.length ^^^ ys.length) m : Int) == 0) = (xs == ys)) := fun m hm => hid (by
    have h := diffs_same xs ys
    rw [← hm] at h
    rw [Bool.eq_iff_iff, beq_iff_eq, beq_iff_eq, ← h]
    omega)
  have HE1 : ys.length ≤ xs.length → Hid (((diffs xs ys (xs.length ^^^ ys.length) xs.length : Int) == 0) = (xs == ys)) := fun h => HE _ (by omega)
  have HE2 : xs.length ≤ ys.length → Hid (((diffs xs ys (xs.length ^^^ ys.length) ys.length : Int) == 0) = (xs == ys)) := fun h => HE _ (by omega)
  have HE1' := hid HE1; have HE2' := hid HE2
  clear hA hA' HE HE1 HE2
  go_enter Tryd.func23, Tryd.ntmps23
  go_wp2
  · have HF := HE2'.out (by omega)
    refine msame_loop A xs c A' ys c' ys.length w B B' _ _ _ _ _ _ _ _ _ _ _ _ _ _ _ _ _ _ _ _ _ _ _ _ _ _ _ _ HA.out HA'.out hx hy hy ?_
    intro u6 u17 u18 u19 u20 u21 u22 u23 u24 u25 u26 u27 u28 u29 u30
    clear HE1' HE2' hxl h
    go_wp2
    go_ret
    exact ⟨by rw [← HF.out]; rfl, rfl⟩
  · have HF := HE1'.out (by omega)
    refine msame_loop A xs c A' ys c' xs.length w B B' _ _ _ _ _ _ _ _ _ _ _ _ _ _ _ _ _ _ _ _ _ _ _ _ _ _ _ _ HA.out HA'.out hx hy hx ?_
    intro u6 u17 u18 u19 u20 u21 u22 u23 u24 u25 u26 u27 u28 u29 u30
    clear HE1' HE2' hxl h
    go_wp2
    go_ret
    exact ⟨by rw [← HF.out]; rfl, rfl⟩

/-- Is it the tag? -/
theorem Is_any (A0 : Option Addr) (tag : List UInt8) (c0 : Nat) (A : Option Addr) (key : List UInt8) (c : Nat) (A2 : Option Addr) (ls : List (List UInt8)) (c2 : Nat) (w : World) (hA0 : Lie w w.heap.size A0 (bvs tag)) (hA : Sq w w.heap.size A c (bvs key)) (hA2 : Rows2' w w.heap.size A2 ls) (hG : Glob w)
    (hn : key.length ≤ 1152921504606846976) (hn2 : ls.flatten.length ≤ 1152921504606840000) (hl : ls.length ≤ 9223372036854775807) (ht : tag.length ≤ 140737488355328) :
    Calls Tryd.prog 22 #[.slice A0 tag.length c0, .slice A key.length c, .slice A2 ls.length c2] w fun e w' => e = .returned (.bool (tag == macB key ls.flatten)) ∧ Below w.heap.size w w' := by
  have HT := hid (Tag_any A key c A2 ls c2 w hA hA2 hG hn hn2 hl)
  have HA0 := hid hA0
  clear hA0 hA hA2 hG
  go_enter Tryd.func22, Tryd.ntmps22
  go_wp2_with fail
  refine HT.out.mono ?_
  rintro e w1 ⟨v, rfl, ⟨b, rfl, hbk, hbz, hl1⟩, hb1⟩
  have h := MSame_any A0 tag c0 (some ⟨b, 0, none⟩) (macB key ls.flatten) 32 w1 w.heap.size w1.heap.size (HA0.out.below hb1) (lie_block hbk) ht (by rw [hl1]; omega)
  rw [hl1] at h
  have HS := hid h; have HB := hid hb1
  clear h hbk hb1 HT hl1
  go_wp2_with fail
  refine HS.out.mono ?_
  rintro e w2 ⟨rfl, rfl⟩
  go_wp2
  go_ret
  exact ⟨rfl, HB.out⟩
end Go.Proofs.YtokggppfobbblaaDoor
