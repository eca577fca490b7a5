/-
  Layer 14: what package walk must answer, as propositions; the examples.
-/
import Derived.Test.YtaoddlcoedodcaaLaw14a
namespace Go.Proofs.Ytaoddlcoedodcaa
open Go Go.RowKit
set_option linter.unusedVariables false
set_option linter.unusedSimpArgs false
/-- Numbers that lie somewhere. -/
def RetL (W : World) (xs : List Nat) (e : Ending) (w' : World) : Prop := ∃ A c, e = .returned (.slice A xs.length c) ∧ Sq w' w'.heap.size A c (ivs xs) ∧ Below W.heap.size W w'
theorem retL_of {P : Program} {f : FuncId} {args : Array Value} {W : World} {xs : List Nat} (h : Calls P f args W (OwnL W xs)) : Calls P f args W (RetL W xs) := h.mono fun e w' ⟨v, he, ho, hb⟩ => by
  obtain ⟨A, c, rfl, hs⟩ := own_sl ho
  exact ⟨A, c, he, hs.sq, hb⟩
theorem sq_onI {w w' : World} {A : Option Addr} {c : Nat} {xs : List Value} (h : Sq w w.heap.size A c xs) (hb : Below w.heap.size w w') : Sq w' w'.heap.size A c xs := (h.below hb).more hb.size
theorem SameR (A : Option Addr) (xs : List Nat) (c : Nat) (A' : Option Addr) (ys : List Nat) (c' : Nat) (W : World) (hA : Sq W W.heap.size A c (ivs xs)) (hA' : Sq W W.heap.size A' c' (ivs ys)) (hm : xs.length ≤ 1000000) :
    Calls Try.prog 24 #[.slice A xs.length c, .slice A' ys.length c'] W (RetB W (xs == ys)) :=
  (Same14_any A xs c A' ys c' W W.heap.size W.heap.size hA.lie hA'.lie (by omega)).mono fun e w' ⟨he, n, hw⟩ => ⟨he, by rw [hw]; exact belowB_drewN (Below.refl _ _) n⟩
theorem PathRL (x n : Int) (W : World) : Calls Try.prog 26 #[.int .i64 x, .int .i64 n] W (RetL W (pathZ x n)) := retL_of (PathR x n W)
theorem CopathRL (x n : Int) (W : World) : Calls Try.prog 28 #[.int .i64 x, .int .i64 n] W (RetL W (copZ x n)) := retL_of (CopathR x n W)
theorem pathZ_le (x n : Int) : (pathZ x n).length ≤ 16 := by
  unfold pathZ
  split
  · next h =>
    rw [pathL_length]
    have h3 : ht n ≤ 16 := by
      obtain ⟨h1, -, -⟩ := inT_fit (inB_iff.1 h)
      obtain ⟨j, hj, rfl⟩ := (fitB_iff n).1 h1
      rw [ht_pow]; exact hj
    omega
  · simp
theorem copZ_le (x n : Int) : (copZ x n).length ≤ 16 := by
  unfold copZ
  split
  · next h =>
    rw [copL_length]
    have h3 : ht n ≤ 16 := by
      obtain ⟨h1, -, -⟩ := inT_fit (inB_iff.1 h)
      obtain ⟨j, hj, rfl⟩ := (fitB_iff n).1 h1
      rw [ht_pow]; exact hj
    omega
  · simp
/-- What an int holds. -/
def I64 (x : Int) : Prop := -9223372036854775808 ≤ x ∧ x ≤ 9223372036854775807
theorem i64_small {x : Int} (h1 : -1 ≤ x) (h2 : x ≤ 1000000) : I64 x := ⟨by omega, by omega⟩
def WFits : Prop := ∀ (x : Int) (W : World), I64 x → Calls Try.prog 18 #[.int .i64 x] W (RetB W (fitB x))
def WLevel : Prop := ∀ (x : Int) (W : World), I64 x → Calls Try.prog 14 #[.int .i64 x] W (RetI W (levelZ x))
def WRoot : Prop := ∀ (x : Int) (W : World), I64 x → Calls Try.prog 19 #[.int .i64 x] W (RetI W (rootZ x))
def WLeft : Prop := ∀ (x : Int) (W : World), I64 x → Calls Try.prog 16 #[.int .i64 x] W (RetI W (leftZ x))
def WRight : Prop := ∀ (x : Int) (W : World), I64 x → Calls Try.prog 17 #[.int .i64 x] W (RetI W (rightZ x))
def WSpan : Prop := ∀ (x : Int) (W : World), I64 x → Calls Try.prog 11 #[.int .i64 x] W (RetII W (firstZ x) (lastZ x))
def WParent : Prop := ∀ (x n : Int) (W : World), I64 x → I64 n → Calls Try.prog 20 #[.int .i64 x, .int .i64 n] W (RetI W (parentZ x n))
def WSibling : Prop := ∀ (x n : Int) (W : World), I64 x → I64 n → Calls Try.prog 22 #[.int .i64 x, .int .i64 n] W (RetI W (sibZ x n))
def WPath : Prop := ∀ (x n : Int) (W : World), I64 x → I64 n → Calls Try.prog 25 #[.int .i64 x, .int .i64 n] W (RetL W (pathZ x n))
def WCopath : Prop := ∀ (x n : Int) (W : World), I64 x → I64 n → Calls Try.prog 27 #[.int .i64 x, .int .i64 n] W (RetL W (copZ x n))
def WCommon : Prop := ∀ (x y n : Int) (W : World), I64 x → I64 y → I64 n → Calls Try.prog 29 #[.int .i64 x, .int .i64 y, .int .i64 n] W (RetI W (commonZ x y n))
def WUnder : Prop := ∀ (x y : Int) (W : World), I64 x → I64 y → Calls Try.prog 31 #[.int .i64 x, .int .i64 y] W (RetB W (underZ x y))
theorem ex_path : pathZ 0 4 = [1, 3] := pathZ_nd (q := 0) (l := 0) (k := 2) (by decide) (by decide)
theorem ex_cop : copZ 0 4 = [2, 5] := copZ_nd (q := 0) (l := 0) (k := 2) (by decide) (by decide)
theorem ex_common : commonZ 0 2 4 = 1 := commonZ_nd (q := 0) (l := 0) (k := 2) (q' := 1) (l' := 0) (k' := 2) (by decide) (by decide) (by decide) (by decide)
theorem lit2 (W : World) (a b : Nat) : Sq (W.alloc (.cells #[.int .i64 (a : Int), .int .i64 (b : Int)] 3)) (W.heap.size + 1) (some ⟨W.heap.size, 0, none⟩) 2 (ivs [a, b]) :=
  Lie.sq (Lie.newA W #[.int .i64 (a : Int), .int .i64 (b : Int)] _) (by simp) (by decide)
def AliveOk : Prop := ∀ W : World, Calls Try.prog 9 #[] W (RetB W true)
set_option maxHeartbeats 1000000 in
theorem alive14_any (hP : WPath) (hC : WCopath) (hM : WCommon) : AliveOk := fun w => by
  have HP := hid (fun W => hP 0 4 W (i64_small (by decide) (by decide)) (i64_small (by decide) (by decide)))
  have HC := hid (fun W => hC 0 4 W (i64_small (by decide) (by decide)) (i64_small (by decide) (by decide)))
  have HM := hid (fun W => hM 0 2 4 W (i64_small (by decide) (by decide)) (i64_small (by decide) (by decide)) (i64_small (by decide) (by decide)))
  rw [ex_path] at HP
  rw [ex_cop] at HC
  rw [ex_common] at HM
  clear hP hC hM
  have HB0 : Hid (Below w.heap.size w w) := hid (Below.refl _ _)
  go_enter Try.func9, Try.ntmps9
  go_wp2_with fail
  refine (HP.out w).mono ?_
  rintro e w1 ⟨A, c, rfl, hq, hb⟩
  have HB1 := hid (hb.alloc hb.size (.cells #[.int .i64 ((1 : Nat) : Int), .int .i64 ((3 : Nat) : Int)] 3))
  have HS := hid (SameR A [1, 3] c _ [1, 3] 2 (w1.alloc (.cells #[.int .i64 ((1 : Nat) : Int), .int .i64 ((3 : Nat) : Int)] 3)) (by have h := sq_onI hq ((Below.refl w1.heap.size w1).alloc (Nat.le_refl _) (.cells #[.int .i64 ((1 : Nat) : Int), .int .i64 ((3 : Nat) : Int)] 3)); exact h) (by have h := lit2 w1 1 3; simpa using h) (by decide))
  rw [show (([1, 3] : List Nat) == [1, 3]) = true by decide] at HS
  clear hq hb HP
  go_wp2_with fail
  refine HS.out.mono ?_
  rintro e w2 ⟨rfl, hb⟩
  have HB2 := hid (HB1.out.trans (hb.mono HB1.out.size))
  clear hb HS HB1
  go_wp2_with fail
  refine (HC.out w2).mono ?_
  rintro e w3 ⟨A3, c3, rfl, hq, hb⟩
  have hb3 := HB2.out.trans (hb.mono HB2.out.size)
  have HB3 := hid (hb3.alloc hb3.size (.cells #[.int .i64 ((2 : Nat) : Int), .int .i64 ((5 : Nat) : Int)] 3))
  have HS := hid (SameR A3 [2, 5] c3 _ [2, 5] 2 (w3.alloc (.cells #[.int .i64 ((2 : Nat) : Int), .int .i64 ((5 : Nat) : Int)] 3)) (by have h := sq_onI hq ((Below.refl w3.heap.size w3).alloc (Nat.le_refl _) (.cells #[.int .i64 ((2 : Nat) : Int), .int .i64 ((5 : Nat) : Int)] 3)); exact h) (by have h := lit2 w3 2 5; simpa using h) (by decide))
  rw [show (([2, 5] : List Nat) == [2, 5]) = true by decide] at HS
  clear hq hb HC hb3 HB2
  go_wp2_with fail
  refine HS.out.mono ?_
  rintro e w4 ⟨rfl, hb⟩
  have HB4 := hid (HB3.out.trans (hb.mono HB3.out.size))
  clear hb HS HB3
  go_wp2_with fail
  refine (HM.out w4).mono ?_
  rintro e w5 ⟨rfl, hb⟩
  have HB5 := hid (HB4.out.trans (hb.mono HB4.out.size))
  clear hb HM HB4
  go_wp2
  go_ret
  exact ⟨rfl, HB5.out⟩
end Go.Proofs.Ytaoddlcoedodcaa
