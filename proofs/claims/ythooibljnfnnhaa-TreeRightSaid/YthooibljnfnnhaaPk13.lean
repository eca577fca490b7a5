/-
  Texts of this claim in one file: NcA, NcB, NcC, NcE, NcD.
-/
import Derived.Test.YthooibljnfnnhaaPk29
import Derived.Test.YthooibljnfnnhaaPk7
import Derived.Test.YthooibljnfnnhaaPk10
import Derived.Test.YthooibljnfnnhaaPk28
import Derived.Test.YthooibljnfnnhaaPk2
import Derived.Great.Walk
import Derived.Test.YthooibljnfnnhaaPk25
import Derived.Deep.RegionHeld3
import Derived.Test.YthooibljnfnnhaaPk11
section
namespace Go.Proofs.Ythooibljnfnnhaa
open Go Go.RowKit
set_option linter.unusedVariables false
set_option linter.unusedSimpArgs false
theorem isSource_e (r : Nat) (W : World) (hr : r < 256) : Calls Try.prog 112 #[.int .u8 (r : Int)] W fun e w' => e = .returned (.bool (decide (0 < r) && decide (r < 4))) ∧ w' = W := by
  go_enter Try.func112, Try.ntmps112
  go_wp2
  all_goals (go_ret; refine ⟨congrArg (fun b => Ending.returned (.bool b)) ?_, rfl⟩; show (_ : Bool) = _; rw [Bool.eq_iff_iff]; simp; try omega)
theorem isPlace_e (z : Int) (W : World) : Calls Try.prog 114 #[.int .i64 z] W fun e w' => e = .returned (.bool (decide (0 ≤ z) && decide (z < 65536))) ∧ w' = W := by
  go_enter Try.func114, Try.ntmps114
  go_wp2
  all_goals (go_ret; refine ⟨congrArg (fun b => Ending.returned (.bool b)) ?_, rfl⟩; show (_ : Bool) = _; rw [Bool.eq_iff_iff]; simp; try omega)
set_option maxHeartbeats 2000000 in
theorem isLeaf_gen (A0 A1 A2 A3 A4 : Option Addr) (b s i r p g k0 k1 k2 k3 k4 : Nat) (w : World) (hr : r < 256) :
    Calls Try.prog 96 #[.agg #[.slice A0 b k0, .slice A1 s k1, .slice A2 i k2, .int .u8 (r : Int), .slice A3 p k3, .slice A4 g k4]] w (RetB w (leafN b s i r p g)) := by
  have H1 := hid (heap_alloc_new w (.cells #[.slice A0 b k0, .slice A1 s k1, .slice A2 i k2, .int .u8 (r : Int), .slice A3 p k3, .slice A4 g k4] LfT))
  have c0 := cell_of H1.out 0 _ rfl; have c1 := cell_of H1.out 1 _ rfl; have c2 := cell_of H1.out 2 _ rfl; have c3 := cell_of H1.out 3 _ rfl; have c4 := cell_of H1.out 4 _ rfl; have c5 := cell_of H1.out 5 _ rfl
  have HS : Hid (∀ W, Calls Try.prog 112 #[.int .u8 (r : Int)] W fun e w' => e = .returned (.bool (decide (0 < r) && decide (r < 4))) ∧ w' = W) := hid fun W => isSource_e r W hr
  obtain ⟨q, hq⟩ : ∃ t, t = (decide (0 < r) && decide (r < 4)) := ⟨_, rfl⟩
  have hqq : leafN b s i r p g = (decide (b = 32) && decide (s = 32) && decide (0 < i) && decide (i ≤ 64) && q && (decide (p = 0) || (decide (r = 3) && decide (p = 32))) && decide (g = 64)) := by rw [hq]; unfold leafN; simp only [Bool.and_assoc]
  rw [← hq] at HS
  obtain ⟨L, hL⟩ : ∃ t, t = leafN b s i r p g := ⟨_, rfl⟩
  rw [← hL] at hqq ⊢
  have HQ := hid hqq
  clear hqq hL hq
  have HB : Hid (Below w.heap.size w (w.alloc (.cells #[.slice A0 b k0, .slice A1 s k1, .slice A2 i k2, .int .u8 (r : Int), .slice A3 p k3, .slice A4 g k4] LfT))) := hid ((Below.refl _ _).alloc (Nat.le_refl _) _)
  by_cases h0 : b = 32 ∧ s = 32 ∧ 0 < i ∧ i ≤ 64
  · obtain ⟨rfl, rfl, h2, h3⟩ := h0
    have h2i : (0 : Int) < (i : Int) := by omega
    have h3i : (i : Int) ≤ 64 := by omega
    go_enter Try.func96, Try.ntmps96
    go_wp2_with fail
    refine (HS.out _).mono ?_
    rintro e w2 ⟨rfl, rfl⟩
    clear HS
    cases q with
    | false =>
      go_wp2
      go_ret
      exact ⟨by rw [HQ.out]; simp, HB.out⟩
    | true =>
      go_wp2
      all_goals (go_ret; refine ⟨congrArg (fun b => Ending.returned (.bool b)) ?_, (by first | exact HB.out | exact (Below.refl _ _).alloc (Nat.le_refl _) _)⟩; rw [HQ.out]; clear HQ c0 c1 c2 c3 c4 c5 H1 HB; show (_ : Bool) = _; rw [Bool.eq_iff_iff]; simp; try omega)
  · have HN : Hid (L = false) := hid (by rw [HQ.out]; simp; omega)
    clear HQ HS
    by_cases h1 : b = 32
    · by_cases h2 : s = 32
      · by_cases h3 : 0 < i
        · have h4 : ¬ (i : Int) ≤ 64 := by omega
          have h3i : (0 : Int) < (i : Int) := by omega
          subst h1 h2
          clear h0 h3
          go_enter Try.func96, Try.ntmps96
          go_wp2
          go_ret
          exact ⟨by rw [HN.out]; rfl, HB.out⟩
        · obtain rfl : i = 0 := by omega
          subst h1 h2
          clear h0 h3
          go_enter Try.func96, Try.ntmps96
          go_wp2
          go_ret
          exact ⟨by rw [HN.out]; rfl, HB.out⟩
      · have h2i : ((s : Int) == 32) = false := by rw [beq_eq_false_iff_ne]; omega
        subst h1
        clear h0 h2
        go_enter Try.func96, Try.ntmps96
        go_wp2
        go_ret
        exact ⟨by rw [HN.out]; rfl, HB.out⟩
    · have h1i : ((b : Int) == 32) = false := by rw [beq_eq_false_iff_ne]; omega
      clear h0 h1
      go_enter Try.func96, Try.ntmps96
      go_wp2
      go_ret
      exact ⟨by rw [HN.out]; rfl, HB.out⟩
theorem isLeaf_e (x : Lf) (a : LA) (w : World) (hr : x.src < 256) : Calls Try.prog 96 #[.agg (lfV x a)] w (RetB w (leafB x)) := isLeaf_gen _ _ _ _ _ _ _ _ _ _ _ _ _ _ _ _ w hr
theorem Lie.nums {w : World} {B : Nat} {A : Option Addr} {xs : List UInt8} (h : Lie w B A (bvs xs)) : Lib.BytesIn w A xs.length (nums xs) := fun hn => by
  obtain ⟨b, o, hA, -⟩ := h.byte hn
  refine ⟨b, o, hA, fun i hi => ?_⟩
  obtain ⟨b', o', hA', -, hc⟩ := h.byte hi
  rw [hA] at hA'
  simp only [Option.some.injEq, Addr.mk.injEq] at hA'
  obtain ⟨rfl, rfl, -⟩ := hA'
  rw [hc, Go.Proofs.Ythooibljnfnnhaa.nums, List.getD_eq_getElem?_getD, List.getElem?_map, List.getElem?_eq_getElem hi]
  rfl
theorem EqualB (A : Option Addr) (xs : List UInt8) (c : Nat) (A' : Option Addr) (ys : List UInt8) (c' : Nat) (w : World) (h : Lie w w.heap.size A (bvs xs)) (h' : Lie w w.heap.size A' (bvs ys)) :
    Calls Try.prog 99 #[.slice A xs.length c, .slice A' ys.length c'] w (RetB w (xs == ys)) := by
  have h1 := h.nums.convert (by unfold nums; rw [List.length_map]) c 25 5 9 Try.underlying25 Try.underlying5 Try.underlying9
  have h2 := h'.nums.convert (by unfold nums; rw [List.length_map]) c' 25 5 9 Try.underlying25 Try.underlying5 Try.underlying9
  have hi : ((strOfNums (nums xs)).toList == (strOfNums (nums ys)).toList) = (xs == ys) := by rw [nums_back, nums_back]
  have HI := hid hi
  clear h h' hi
  go_enter Try.func99, Try.ntmps99
  go_wp2
  go_ret
  exact ⟨by rw [← HI.out]; rfl, Below.refl _ _⟩
set_option maxHeartbeats 2000000 in
theorem sameLeaf_e (x y : Lf) (a b : LA) (w : World) (hx : LfIn w x a) (hy : LfIn w y b) : Calls Try.prog 76 #[.agg (lfV x a), .agg (lfV y b)] w (RetB w (sameLf x y)) := by
  have K1 : Hid (((w.alloc (.cells (lfV x a) LfT)).alloc (.cells (lfV y b) LfT)).heap[w.heap.size]? = some (.cells (lfV x a) LfT (0, 0))) := hid ((Below.heap_alloc _ _ w.heap.size (by simp)).trans (heap_alloc_new w (.cells (lfV x a) LfT)))
  have K2 : Hid (((w.alloc (.cells (lfV x a) LfT)).alloc (.cells (lfV y b) LfT)).heap[w.heap.size + 1]? = some (.cells (lfV y b) LfT (0, 0))) := hid (by have h := heap_alloc_new (w.alloc (.cells (lfV x a) LfT)) (.cells (lfV y b) LfT); simpa using h)
  have HB : Hid (Below w.heap.size w ((w.alloc (.cells (lfV x a) LfT)).alloc (.cells (lfV y b) LfT))) := hid (((Below.refl _ _).alloc (Nat.le_refl _) _).alloc (by simp) _)
  have HX := hid (hx.on HB.out); have HY := hid (hy.on HB.out)
  have HC1 : Hid (∀ W : World, LfIn W x a → LfIn W y b → Calls Try.prog 99 #[.slice a.a0 x.box.length a.c0, .slice b.a0 y.box.length b.c0] W (RetB W (x.box == y.box))) := hid fun W h1 h2 => EqualB _ _ _ _ _ _ W h1.1 h2.1
  have HC2 : Hid (∀ W : World, LfIn W x a → LfIn W y b → Calls Try.prog 99 #[.slice a.a1 x.sign.length a.c1, .slice b.a1 y.sign.length b.c1] W (RetB W (x.sign == y.sign))) := hid fun W h1 h2 => EqualB _ _ _ _ _ _ W h1.2.1 h2.2.1
  have HC3 : Hid (∀ W : World, LfIn W x a → LfIn W y b → Calls Try.prog 99 #[.slice a.a2 x.ident.length a.c2, .slice b.a2 y.ident.length b.c2] W (RetB W (x.ident == y.ident))) := hid fun W h1 h2 => EqualB _ _ _ _ _ _ W h1.2.2.1 h2.2.2.1
  have HC4 : Hid (∀ W : World, LfIn W x a → LfIn W y b → Calls Try.prog 99 #[.slice a.a3 x.par.length a.c3, .slice b.a3 y.par.length b.c3] W (RetB W (x.par == y.par))) := hid fun W h1 h2 => EqualB _ _ _ _ _ _ W h1.2.2.2.1 h2.2.2.2.1
  have HC5 : Hid (∀ W : World, LfIn W x a → LfIn W y b → Calls Try.prog 99 #[.slice a.a4 x.sig.length a.c4, .slice b.a4 y.sig.length b.c4] W (RetB W (x.sig == y.sig))) := hid fun W h1 h2 => EqualB _ _ _ _ _ _ W h1.2.2.2.2 h2.2.2.2.2
  have HS : Hid (sameLf x y = (x.box == y.box && x.sign == y.sign && x.ident == y.ident && x.src == y.src && x.par == y.par && x.sig == y.sig)) := hid rfl
  obtain ⟨r, hrr⟩ : ∃ t, t = sameLf x y := ⟨_, rfl⟩
  rw [← hrr] at HS ⊢
  obtain ⟨q1, hq1⟩ : ∃ t, t = (x.box == y.box) := ⟨_, rfl⟩
  rw [← hq1] at HC1 HS
  obtain ⟨q2, hq2⟩ : ∃ t, t = (x.sign == y.sign) := ⟨_, rfl⟩
  rw [← hq2] at HC2 HS
  obtain ⟨q3, hq3⟩ : ∃ t, t = (x.ident == y.ident) := ⟨_, rfl⟩
  rw [← hq3] at HC3 HS
  obtain ⟨q4, hq4⟩ : ∃ t, t = (x.par == y.par) := ⟨_, rfl⟩
  rw [← hq4] at HC4 HS
  obtain ⟨q5, hq5⟩ : ∃ t, t = (x.sig == y.sig) := ⟨_, rfl⟩
  rw [← hq5] at HC5 HS
  have hsi : ((x.src : Int) == (y.src : Int)) = (x.src == y.src) := by rw [Bool.eq_iff_iff, beq_iff_eq, beq_iff_eq]; omega
  obtain ⟨q6, hq6⟩ : ∃ t, t = (x.src == y.src) := ⟨_, rfl⟩
  rw [← hq6] at hsi HS
  clear hrr hx hy hq1 hq2 hq3 hq4 hq5 hq6
  go_enter Try.func76, Try.ntmps76
  have c1 := cell_of K1.out 0 _ rfl; have c2 := cell_of K2.out 0 _ rfl
  go_wp2_with fail
  refine (HC1.out _ HX.out HY.out).mono ?_
  rintro e w1 ⟨rfl, hb⟩
  have HX2 := hid (HX.out.on hb); have HY2 := hid (HY.out.on hb); have HB2 := hid (HB.out.trans (hb.mono HB.out.size))
  have K12 := hid ((hb.block _ (block_lt K1.out)).trans K1.out); have K22 := hid ((hb.block _ (block_lt K2.out)).trans K2.out)
  clear hb HX HY HB K1 K2 c1 c2 HC1
  have HX := HX2; have HY := HY2; have HB := HB2; have K1 := K12; have K2 := K22
  clear HX2 HY2 HB2 K12 K22
  cases q1 with
  | false =>
    go_wp2
    go_ret
    exact ⟨by rw [HS.out]; rfl, HB.out⟩
  | true =>
    have c1 := cell_of K1.out 1 _ rfl; have c2 := cell_of K2.out 1 _ rfl
    go_wp2_with fail
    refine (HC2.out _ HX.out HY.out).mono ?_
    rintro e w2 ⟨rfl, hb⟩
    have HX2 := hid (HX.out.on hb); have HY2 := hid (HY.out.on hb); have HB2 := hid (HB.out.trans (hb.mono HB.out.size))
    have K12 := hid ((hb.block _ (block_lt K1.out)).trans K1.out); have K22 := hid ((hb.block _ (block_lt K2.out)).trans K2.out)
    clear hb HX HY HB K1 K2 c1 c2 HC2
    have HX := HX2; have HY := HY2; have HB := HB2; have K1 := K12; have K2 := K22
    clear HX2 HY2 HB2 K12 K22
    cases q2 with
    | false =>
      go_wp2
      go_ret
      exact ⟨by rw [HS.out]; rfl, HB.out⟩
    | true =>
      have c1 := cell_of K1.out 2 _ rfl; have c2 := cell_of K2.out 2 _ rfl
      go_wp2_with fail
      refine (HC3.out _ HX.out HY.out).mono ?_
      rintro e w3 ⟨rfl, hb⟩
      have HX2 := hid (HX.out.on hb); have HY2 := hid (HY.out.on hb); have HB2 := hid (HB.out.trans (hb.mono HB.out.size))
      have K12 := hid ((hb.block _ (block_lt K1.out)).trans K1.out); have K22 := hid ((hb.block _ (block_lt K2.out)).trans K2.out)
      clear hb HX HY HB K1 K2 c1 c2 HC3
      have HX := HX2; have HY := HY2; have HB := HB2; have K1 := K12; have K2 := K22
      clear HX2 HY2 HB2 K12 K22
      cases q3 with
      | false =>
        have c3 := cell_of K1.out 3 _ rfl; have c4 := cell_of K2.out 3 _ rfl
        go_wp2
        go_ret
        exact ⟨by rw [HS.out]; rfl, HB.out⟩
      | true =>
        cases q6 with
        | false =>
          have c3 := cell_of K1.out 3 _ rfl; have c4 := cell_of K2.out 3 _ rfl
          go_wp2
          go_ret
          exact ⟨by rw [HS.out]; rfl, HB.out⟩
        | true =>
          have c1 := cell_of K1.out 4 _ rfl; have c2 := cell_of K2.out 4 _ rfl; have c3 := cell_of K1.out 3 _ rfl; have c4 := cell_of K2.out 3 _ rfl
          go_wp2_with fail
          refine (HC4.out _ HX.out HY.out).mono ?_
          rintro e w4 ⟨rfl, hb⟩
          have HX2 := hid (HX.out.on hb); have HY2 := hid (HY.out.on hb); have HB2 := hid (HB.out.trans (hb.mono HB.out.size))
          have K12 := hid ((hb.block _ (block_lt K1.out)).trans K1.out); have K22 := hid ((hb.block _ (block_lt K2.out)).trans K2.out)
          clear hb HX HY HB K1 K2 c1 c2 HC4 c3 c4
          have HX := HX2; have HY := HY2; have HB := HB2; have K1 := K12; have K2 := K22
          clear HX2 HY2 HB2 K12 K22
          cases q4 with
          | false =>
            go_wp2
            go_ret
            exact ⟨by rw [HS.out]; rfl, HB.out⟩
          | true =>
            have c1 := cell_of K1.out 5 _ rfl; have c2 := cell_of K2.out 5 _ rfl
            go_wp2_with fail
            refine (HC5.out _ HX.out HY.out).mono ?_
            rintro e w5 ⟨rfl, hb⟩
            have HX2 := hid (HX.out.on hb); have HY2 := hid (HY.out.on hb); have HB2 := hid (HB.out.trans (hb.mono HB.out.size))
            have K12 := hid ((hb.block _ (block_lt K1.out)).trans K1.out); have K22 := hid ((hb.block _ (block_lt K2.out)).trans K2.out)
            clear hb HX HY HB K1 K2 c1 c2 HC5
            have HX := HX2; have HY := HY2; have HB := HB2; have K1 := K12; have K2 := K22
            clear HX2 HY2 HB2 K12 K22
            go_wp2
            go_ret
            exact ⟨by rw [HS.out]; rfl, HB.out⟩
set_option maxHeartbeats 800000 in
theorem EqualZ (A : Option Addr) (xs : List Int) (c : Nat) (A' : Option Addr) (ys : List Int) (c' : Nat) (w : World) (hA : Lie w w.heap.size A (izs xs)) (hA' : Lie w w.heap.size A' (izs ys)) (hm : xs.length ≤ 140737488355328) :
    Calls Try.prog 100 #[.slice A xs.length c, .slice A' ys.length c'] w (RetB w (xs == ys)) := by
  by_cases hl : xs.length = ys.length
  · have hl2 : ((xs.length : Int) != (ys.length : Int)) = false := by simp [hl]
    have HL := hid hl
    clear hl
    go_enter Try.func100, Try.ntmps100
    go_wp2
    go_loopg [13] xs.length (fun g i wr => ∃ k n : Nat, k + g = xs.length ∧ i = .int .i64 (k : Int) ∧ xs.take k = ys.take k ∧ wr = w.drewN n)
    case atStart => exact ⟨0, 0, by omega, rfl, rfl, rfl⟩
    case round =>
      obtain ⟨k, n, hk, rfl, ht, rfl⟩ := hrel
      have HT := hid ht
      have HK := hid hk
      clear ht hk
      by_cases hlt : k < xs.length
      · have hlt2 : k < ys.length := by rw [← HL.out]; exact hlt
        obtain ⟨b, o, rfl, hb, hc⟩ := hA.numZ hlt
        obtain ⟨b', o', rfl, hb', hc'⟩ := hA'.numZ hlt2
        have hx : (k : Int) < (xs.length : Int) := by omega
        have hy : (k : Int) < (ys.length : Int) := by omega
        have h0 : (0 : Int) ≤ (k : Int) := by omega
        have hwk : wrap64 ((k : Int) + 1) = (k : Int) + 1 := wrap64_in' (by omega) (by omega)
        have hstep := hid (take_eq_step xs ys k hlt hlt2 HT.out)
        by_cases he : xs[k] = ys[k]
        · have he2 : (xs[k] != ys[k]) = false := by simp [he]
          have HE := hid he
          clear he
          go_wp2
          go_quiet (fail)
          go_wp2
          have hk := HK.out
          go_roundg (gk - 1)
          case measure => omega
          case rel => exact ⟨k + 1, _, by omega, by go_num, hstep.out.2 HE.out, rfl⟩
        · have he2 : (xs[k] != ys[k]) = true := by rw [bne_iff_ne]; omega
          have HE := hid he
          have HF : Hid ((xs == ys) = false) := hid (by
            rw [beq_eq_false_iff_ne]
            intro e
            subst e
            exact he rfl)
          clear he
          go_wp2
          go_quiet (fail)
          go_wp2
          go_ret
          exact ⟨by rw [HF.out]; rfl, by have h := belowB_drewN (Below.refl w.heap.size w) (n + 1); exact belowB_drewN (belowB_drewN (Below.refl _ _) _) _⟩
      · have hk := HK.out
        obtain rfl : k = xs.length := by omega
        have HF : Hid ((xs == ys) = true) := hid (by
          have h := HT.out
          rw [List.take_length, HL.out, List.take_length] at h
          rw [beq_iff_eq]; exact h)
        clear hk
        go_wp2
        go_ret
        exact ⟨by rw [HF.out]; rfl, belowB_drewN (Below.refl _ _) _⟩
  · have hl2 : ((xs.length : Int) != (ys.length : Int)) = true := by rw [bne_iff_ne]; omega
    have HF : Hid ((xs == ys) = false) := hid (by
      rw [beq_eq_false_iff_ne]
      intro e
      subst e
      exact hl rfl)
    clear hl
    go_enter Try.func100, Try.ntmps100
    go_wp2
    go_ret
    exact ⟨by rw [HF.out]; rfl, Below.refl _ _⟩
end Go.Proofs.Ythooibljnfnnhaa
end
section
namespace Go.Proofs.Ythooibljnfnnhaa
open Go Go.RowKit
set_option linter.unusedVariables false
set_option linter.unusedSimpArgs false
def samePr (u v : Pnt) : Bool := u.box == v.box && u.hash == v.hash && u.late == v.late
set_option maxHeartbeats 2000000 in
theorem sameParent_e (x y : Pnt) (a b : PA) (w : World) (hx : PrIn w x a) (hy : PrIn w y b) (hl : x.late.length ≤ 140737488355328) : Calls Try.prog 77 #[.agg (prV x a), .agg (prV y b)] w (RetB w (samePr x y)) := by
  have K1 : Hid (((w.alloc (.cells (prV x a) PrT)).alloc (.cells (prV y b) PrT)).heap[w.heap.size]? = some (.cells (prV x a) PrT (0, 0))) := hid ((Below.heap_alloc _ _ w.heap.size (by simp)).trans (heap_alloc_new w (.cells (prV x a) PrT)))
  have K2 : Hid (((w.alloc (.cells (prV x a) PrT)).alloc (.cells (prV y b) PrT)).heap[w.heap.size + 1]? = some (.cells (prV y b) PrT (0, 0))) := hid (by have h := heap_alloc_new (w.alloc (.cells (prV x a) PrT)) (.cells (prV y b) PrT); simpa using h)
  have HB : Hid (Below w.heap.size w ((w.alloc (.cells (prV x a) PrT)).alloc (.cells (prV y b) PrT))) := hid (((Below.refl _ _).alloc (Nat.le_refl _) _).alloc (by simp) _)
  have HX := hid (hx.on HB.out); have HY := hid (hy.on HB.out)
  have HC1 : Hid (∀ W : World, PrIn W x a → PrIn W y b → Calls Try.prog 99 #[.slice a.a0 x.box.length a.c0, .slice b.a0 y.box.length b.c0] W (RetB W (x.box == y.box))) := hid fun W h1 h2 => EqualB _ _ _ _ _ _ W h1.1 h2.1
  have HC2 : Hid (∀ W : World, PrIn W x a → PrIn W y b → Calls Try.prog 99 #[.slice a.a1 x.hash.length a.c1, .slice b.a1 y.hash.length b.c1] W (RetB W (x.hash == y.hash))) := hid fun W h1 h2 => EqualB _ _ _ _ _ _ W h1.2.1 h2.2.1
  have HC3 : Hid (∀ W : World, PrIn W x a → PrIn W y b → Calls Try.prog 100 #[.slice a.a2 x.late.length a.c2, .slice b.a2 y.late.length b.c2] W (RetB W (x.late == y.late))) := hid fun W h1 h2 => EqualZ _ _ _ _ _ _ W h1.2.2 h2.2.2 hl
  have HS : Hid (samePr x y = (x.box == y.box && x.hash == y.hash && x.late == y.late)) := hid rfl
  obtain ⟨r, hrr⟩ : ∃ t, t = samePr x y := ⟨_, rfl⟩
  rw [← hrr] at HS ⊢
  obtain ⟨q1, hq1⟩ : ∃ t, t = (x.box == y.box) := ⟨_, rfl⟩
  rw [← hq1] at HC1 HS
  obtain ⟨q2, hq2⟩ : ∃ t, t = (x.hash == y.hash) := ⟨_, rfl⟩
  rw [← hq2] at HC2 HS
  obtain ⟨q3, hq3⟩ : ∃ t, t = (x.late == y.late) := ⟨_, rfl⟩
  rw [← hq3] at HC3 HS
  clear hrr hx hy hl hq1 hq2 hq3
  go_enter Try.func77, Try.ntmps77
  have c1 := cell_of K1.out 0 _ rfl; have c2 := cell_of K2.out 0 _ rfl
  go_wp2_with fail
  refine (HC1.out _ HX.out HY.out).mono ?_
  rintro e w1 ⟨rfl, hb⟩
  have HX2 := hid (HX.out.on hb); have HY2 := hid (HY.out.on hb); have HB2 := hid (HB.out.trans (hb.mono HB.out.size))
  have K12 := hid ((hb.block _ (block_lt K1.out)).trans K1.out); have K22 := hid ((hb.block _ (block_lt K2.out)).trans K2.out)
  clear hb HX HY HB K1 K2 c1 c2 HC1
  have HX := HX2; have HY := HY2; have HB := HB2; have K1 := K12; have K2 := K22
  clear HX2 HY2 HB2 K12 K22
  cases q1 with
  | false =>
    go_wp2
    go_ret
    exact ⟨by rw [HS.out]; rfl, HB.out⟩
  | true =>
    have c1 := cell_of K1.out 1 _ rfl; have c2 := cell_of K2.out 1 _ rfl
    go_wp2_with fail
    refine (HC2.out _ HX.out HY.out).mono ?_
    rintro e w2 ⟨rfl, hb⟩
    have HX2 := hid (HX.out.on hb); have HY2 := hid (HY.out.on hb); have HB2 := hid (HB.out.trans (hb.mono HB.out.size))
    have K12 := hid ((hb.block _ (block_lt K1.out)).trans K1.out); have K22 := hid ((hb.block _ (block_lt K2.out)).trans K2.out)
    clear hb HX HY HB K1 K2 c1 c2 HC2
    have HX := HX2; have HY := HY2; have HB := HB2; have K1 := K12; have K2 := K22
    clear HX2 HY2 HB2 K12 K22
    cases q2 with
    | false =>
      go_wp2
      go_ret
      exact ⟨by rw [HS.out]; rfl, HB.out⟩
    | true =>
      have c1 := cell_of K1.out 2 _ rfl; have c2 := cell_of K2.out 2 _ rfl
      go_wp2_with fail
      refine (HC3.out _ HX.out HY.out).mono ?_
      rintro e w3 ⟨rfl, hb⟩
      have HX2 := hid (HX.out.on hb); have HY2 := hid (HY.out.on hb); have HB2 := hid (HB.out.trans (hb.mono HB.out.size))
      have K12 := hid ((hb.block _ (block_lt K1.out)).trans K1.out); have K22 := hid ((hb.block _ (block_lt K2.out)).trans K2.out)
      clear hb HX HY HB K1 K2 c1 c2 HC3
      have HX := HX2; have HY := HY2; have HB := HB2; have K1 := K12; have K2 := K22
      clear HX2 HY2 HB2 K12 K22
      go_wp2
      go_ret
      exact ⟨by rw [HS.out]; rfl, HB.out⟩
set_option maxHeartbeats 1000000 in
theorem isParent_gen (A0 A1 A2 : Option Addr) (n0 n1 c0 c1 c2 : Nat) (late : List Int) (w : World) (hy : Lie w w.heap.size A2 (izs late)) (hm : late.length ≤ 140737488355328) : Calls Try.prog 104 #[.agg #[.slice A0 n0 c0, .slice A1 n1 c1, .slice A2 late.length c2]] w (RetB w (riseB late && (decide (n0 = 32) && (decide (n1 = 0) || decide (n1 = 32))))) := by
  have K1 : Hid ((w.alloc (.cells #[.slice A0 n0 c0, .slice A1 n1 c1, .slice A2 late.length c2] PrT)).heap[w.heap.size]? = some (.cells #[.slice A0 n0 c0, .slice A1 n1 c1, .slice A2 late.length c2] PrT (0, 0))) := hid (heap_alloc_new w _)
  have HB : Hid (Below w.heap.size w (w.alloc (.cells #[.slice A0 n0 c0, .slice A1 n1 c1, .slice A2 late.length c2] PrT))) := hid ((Below.refl _ _).alloc (Nat.le_refl _) _)
  obtain ⟨R, hR⟩ : ∃ R, R = (riseB late && (decide (n0 = 32) && (decide (n1 = 0) || decide (n1 = 32)))) := ⟨_, rfl⟩
  rw [← hR]
  have HRR := hid hR
  clear hR
  have HL : Hid (Lie (w.alloc (.cells #[.slice A0 n0 c0, .slice A1 n1 c1, .slice A2 late.length c2] PrT)) w.heap.size A2 (izs late)) := hid (hy.below HB.out)
  have HM := hid hm
  have cL : (w.alloc (.cells #[.slice A0 n0 c0, .slice A1 n1 c1, .slice A2 late.length c2] PrT)).cell? ⟨w.heap.size, 2, none⟩ = some (.slice A2 late.length c2) := cell_of K1.out 2 _ rfl
  obtain ⟨W, hW⟩ : ∃ W, W = w.alloc (.cells #[.slice A0 n0 c0, .slice A1 n1 c1, .slice A2 late.length c2] PrT) := ⟨_, rfl⟩
  have e : w.alloc (.cells #[.slice A0 n0 c0, .slice A1 n1 c1, .slice A2 late.length c2] PrT) = W := hW.symm
  have HE := hid e; have HW := hid hW
  clear hy hm e hW
  go_enter Try.func104, Try.ntmps104
  go_wp2
  rw [← HW.out] at HL HB K1
  rw [HE.out]
  clear HW HE cL
  go_loopg [3, 9] late.length (fun r lv i wr => ∃ j : Nat, j + r = late.length ∧ i = .int .i64 (j : Int) ∧ lv = .int .i64 (if 0 < j then late.getD (j - 1) 0 else -1) ∧ (∀ i : Nat, i < j → badL late i = false) ∧ wr = W)
  case atStart => exact ⟨0, by omega, rfl, rfl, fun i hi => by omega, rfl⟩
  case round =>
    obtain ⟨j, hj, rfl, rfl, hno, rfl⟩ := hrel
    have HJ := hid hj; have HNO := hid hno
    clear hj hno
    obtain ⟨lv, hlv⟩ : ∃ lv : Int, lv = (if 0 < j then late.getD (j - 1) 0 else -1) := ⟨_, rfl⟩
    rw [← hlv]
    by_cases hlt : j < late.length
    · have hji : (j : Int) < (late.length : Int) := by omega
      have hj0 : (0 : Int) ≤ (j : Int) := by omega
      obtain ⟨bb, oo, rfl, hbl, hc⟩ := HL.out.numZ hlt
      have hg := getD_of hlt
      obtain ⟨v, hv⟩ : ∃ v, v = late[j] := ⟨_, rfl⟩
      rw [← hv] at hc hg
      have HBAD : Hid (badL late j = (decide (v < 0) || decide (65535 < v) || (decide (0 < j) && decide (v ≤ late.getD (j - 1) 0)))) := hid (by unfold badL; rw [hg])
      have HLT := hid hlt
      have HLV := hid hlv
      have HVV : Hid (late[j] = v) := hid hv.symm
      have HP := hid (fun V => isPlace_e v V)
      obtain ⟨q, hq⟩ : ∃ t, t = (decide (0 ≤ v) && decide (v < 65536)) := ⟨_, rfl⟩
      rw [← hq] at HP
      have HQ := hid hq
      clear hv hg hlt hlv hq
      have hwj : wrap64 ((j : Int) + 1) = (j : Int) + 1 := wrap64_in' (by omega) (by have := HM.out; have := HLT.out; omega)
      go_wp2_with fail
      refine (HP.out _).mono ?_
      rintro e w2 ⟨rfl, rfl⟩
      clear HP
      cases q with
      | false =>
        have HF : Hid (R = false) := hid (by
          have h : v < 0 ∨ 65535 < v := by
            have h := HQ.out
            rcases Int.lt_or_le v 0 with h1 | h1
            · exact .inl h1
            · rw [decide_eq_true h1, Bool.true_and] at h
              have h2 := of_decide_eq_false h.symm
              exact .inr (by omega)
          rw [HRR.out]
          rw [rise_no HLT.out (by rw [HBAD.out]; rcases h with h | h <;> rw [decide_eq_true h] <;> simp), Bool.false_and])
        go_wp2
        go_ret
        exact ⟨by rw [HF.out]; rfl, HB.out⟩
      | true =>
        have hq := HQ.out
        rw [eq_comm, Bool.and_eq_true, decide_eq_true_iff, decide_eq_true_iff] at hq
        obtain ⟨hv0, hv1⟩ := hq
        by_cases h4 : v ≤ lv
        · have hz : 0 < j := by
            rcases Nat.lt_or_ge 0 j with h | h
            · exact h
            · exfalso
              have h5 := HLV.out
              rw [if_neg (by omega)] at h5
              omega
          have HF : Hid (R = false) := hid (by
            have h5 := HLV.out
            rw [if_pos hz] at h5
            rw [HRR.out]
            rw [rise_no HLT.out (by rw [HBAD.out, decide_eq_true hz, ← h5, decide_eq_true h4]; simp), Bool.false_and])
          clear hv0 hv1 hz HBAD HLV HQ
          go_wp2
          go_ret
          exact ⟨by rw [HF.out]; rfl, HB.out⟩
        · have HF : Hid (badL late j = false) := hid (by
            rw [HBAD.out, decide_eq_false (by omega), decide_eq_false (by omega)]
            by_cases hz : 0 < j
            · have h5 := HLV.out
              rw [if_pos hz] at h5
              rw [← h5, decide_eq_false h4]; simp
            · rw [decide_eq_false hz]; rfl)
          have HV : Hid (v = late.getD (j + 1 - 1) 0) := hid (by rw [Nat.add_sub_cancel, getD_of HLT.out]; exact HVV.out.symm)
          clear hv0 hv1 HBAD HLV HQ
          go_wp2
          have hj := HJ.out; have hlt := HLT.out
          go_roundg (late.length - (j + 1))
          case measure => clear hwj; omega
          case rel => exact ⟨j + 1, by clear hwj; omega, by first | rfl | (rw [hwj]; rfl), by rw [if_pos (Nat.succ_pos j), ← HV.out], fun i hi => by
            rcases Nat.lt_or_ge i j with h | h
            · exact HNO.out i h
            · obtain rfl : i = j := by clear hwj; omega
              exact HF.out, rfl⟩
    · have hge : ¬ (j : Int) < (late.length : Int) := by omega
      have hri : riseB late = true := rise_yes fun i hi => HNO.out i (by omega)
      have HP : Hid (R = (decide (n0 = 32) && (decide (n1 = 0) || decide (n1 = 32)))) := hid (by rw [HRR.out, hri, Bool.true_and])
      have x0 := cell_of K1.out 0 _ rfl
      have x1 := cell_of K1.out 1 _ rfl
      clear hlt hri hlv K1 HNO HRR
      go_wp2
      all_goals (go_ret; refine ⟨congrArg (fun b => Ending.returned (.bool b)) ?_, HB.out⟩; have hp := HP.out; clear x0 x1; show (_ : Bool) = _; rw [hp, Bool.eq_iff_iff]; simp; try omega)
theorem isParent_e (y : Pnt) (b : PA) (w : World) (hy : PrIn w y b) (hm : PrLe y) : Calls Try.prog 104 #[.agg (prV y b)] w (RetB w (parB y)) := isParent_gen _ _ _ _ _ _ _ _ y.late w hy.2.2 hm.2.2
theorem emptyLf_same (x : Lf) : emptyLf x = sameLf x lf0 := by unfold emptyLf sameNd; simp [pr0]
theorem emptyPr_same (u : Pnt) : emptyPr u = samePr u pr0 := by unfold emptyPr sameNd samePr sameLf; simp
set_option maxHeartbeats 2000000 in
theorem isNode_e (k : Nat) (x : Lf) (a : LA) (u : Pnt) (p : PA) (w : World) (hk : k < 256) (hx : LfIn w x a) (hu : PrIn w u p) (hs : x.src < 256) (hm : PrLe u) :
    Calls Try.prog 85 #[.agg (ndV k x a u p)] w (RetB w (rightB k x u)) := by
  have HS : Hid (rightB k x u = if k = 0 then emptyLf x && emptyPr u else if k = 1 then leafB x && emptyPr u else if k = 2 then parB u && emptyLf x else false) := hid rfl
  have K1 : Hid ((w.alloc (.cells (ndV k x a u p) NdT)).heap[w.heap.size]? = some (.cells (ndV k x a u p) NdT (0, 0))) := hid (heap_alloc_new w _)
  have HB : Hid (Below w.heap.size w (w.alloc (.cells (ndV k x a u p) NdT))) := hid ((Below.refl _ _).alloc (Nat.le_refl _) _)
  have HX := hid (hx.on HB.out); have HU := hid (hu.on HB.out)
  obtain ⟨W, hW⟩ : ∃ W, W = w.alloc (.cells (ndV k x a u p) NdT) := ⟨_, rfl⟩
  rw [← hW] at K1 HB HX HU
  have C3 : Hid (∀ V, Below W.heap.size W V → Calls Try.prog 76 #[.agg (lfV x a), .agg (lfV lf0 la0)] V (RetB V (emptyLf x))) := hid fun V h => by rw [emptyLf_same]; exact sameLeaf_e x lf0 a la0 V (HX.out.on h) (lf0_in V)
  have C4 : Hid (∀ V, Below W.heap.size W V → Calls Try.prog 77 #[.agg (prV u p), .agg (prV pr0 pa0)] V (RetB V (emptyPr u))) := hid fun V h => by rw [emptyPr_same]; exact sameParent_e u pr0 p pa0 V (HU.out.on h) (pr0_in V) hm.2.2
  have CL : Hid (∀ V, Below W.heap.size W V → Calls Try.prog 96 #[.agg (lfV x a)] V (RetB V (leafB x))) := hid fun V _ => isLeaf_e x a V hs
  have CP : Hid (∀ V, Below W.heap.size W V → Calls Try.prog 104 #[.agg (prV u p)] V (RetB V (parB u))) := hid fun V h => isParent_e u p V (HU.out.on h) hm
  obtain ⟨r, hrr⟩ : ∃ t, t = rightB k x u := ⟨_, rfl⟩
  obtain ⟨q3, hq3⟩ : ∃ t, t = emptyLf x := ⟨_, rfl⟩
  obtain ⟨q4, hq4⟩ : ∃ t, t = emptyPr u := ⟨_, rfl⟩
  obtain ⟨ql, hql⟩ : ∃ t, t = leafB x := ⟨_, rfl⟩
  obtain ⟨qp, hqp⟩ : ∃ t, t = parB u := ⟨_, rfl⟩
  rw [← hrr, ← hq3, ← hq4, ← hql, ← hqp] at HS
  rw [← hq3] at C3
  rw [← hq4] at C4
  rw [← hql] at CL
  rw [← hqp] at CP
  rw [← hrr]
  clear hrr hq3 hq4 hql hqp hx hu hs hm HX HU
  have hbuild1 : ∀ W : World, (Instr.build LfT #[]).run Try.prog W = .ok (.agg (lfV lf0 la0)) W := build_lf
  have hbuild2 : ∀ W : World, (Instr.build PrT #[]).run Try.prog W = .ok (.agg (prV pr0 pa0)) W := fun W => run_build W PrT _ _ (by kernel_rfl)
  have hload1 : ∀ V, Below W.heap.size W V → (Instr.loadAt LfT (.pointer (some ⟨w.heap.size, 1, none⟩))).run Try.prog V = .ok (.agg (lfV x a)) V := fun V h => load_leaf ((h.block _ (block_lt K1.out)).trans K1.out)
  have hload2 : ∀ V, Below W.heap.size W V → (Instr.loadAt PrT (.pointer (some ⟨w.heap.size, 7, none⟩))).run Try.prog V = .ok (.agg (prV u p)) V := fun V h => load_par ((h.block _ (block_lt K1.out)).trans K1.out)
  have e : w.alloc (.cells #[.int .u8 (k : Int), .slice a.a0 x.box.length a.c0, .slice a.a1 x.sign.length a.c1, .slice a.a2 x.ident.length a.c2, .int .u8 (x.src : Int), .slice a.a3 x.par.length a.c3, .slice a.a4 x.sig.length a.c4, .slice p.a0 u.box.length p.c0, .slice p.a1 u.hash.length p.c1, .slice p.a2 u.late.length p.c2] NdT) = W := hW.symm
  have HE := hid e
  clear hload1 hload2 e hW
  have HK0 := hid hk
  clear hk
  have x0 : (w.alloc (.cells (ndV k x a u p) NdT)).cell? ⟨w.heap.size, 0, none⟩ = _ := cell_of (heap_alloc_new w (.cells (ndV k x a u p) NdT)) 0 _ rfl; have x1 : (w.alloc (.cells (ndV k x a u p) NdT)).cell? ⟨w.heap.size, 1, none⟩ = _ := cell_of (heap_alloc_new w (.cells (ndV k x a u p) NdT)) 1 _ rfl; have x2 : (w.alloc (.cells (ndV k x a u p) NdT)).cell? ⟨w.heap.size, 2, none⟩ = _ := cell_of (heap_alloc_new w (.cells (ndV k x a u p) NdT)) 2 _ rfl; have x3 : (w.alloc (.cells (ndV k x a u p) NdT)).cell? ⟨w.heap.size, 3, none⟩ = _ := cell_of (heap_alloc_new w (.cells (ndV k x a u p) NdT)) 3 _ rfl; have x4 : (w.alloc (.cells (ndV k x a u p) NdT)).cell? ⟨w.heap.size, 4, none⟩ = _ := cell_of (heap_alloc_new w (.cells (ndV k x a u p) NdT)) 4 _ rfl; have x5 : (w.alloc (.cells (ndV k x a u p) NdT)).cell? ⟨w.heap.size, 5, none⟩ = _ := cell_of (heap_alloc_new w (.cells (ndV k x a u p) NdT)) 5 _ rfl; have x6 : (w.alloc (.cells (ndV k x a u p) NdT)).cell? ⟨w.heap.size, 6, none⟩ = _ := cell_of (heap_alloc_new w (.cells (ndV k x a u p) NdT)) 6 _ rfl; have x7 : (w.alloc (.cells (ndV k x a u p) NdT)).cell? ⟨w.heap.size, 7, none⟩ = _ := cell_of (heap_alloc_new w (.cells (ndV k x a u p) NdT)) 7 _ rfl; have x8 : (w.alloc (.cells (ndV k x a u p) NdT)).cell? ⟨w.heap.size, 8, none⟩ = _ := cell_of (heap_alloc_new w (.cells (ndV k x a u p) NdT)) 8 _ rfl; have x9 : (w.alloc (.cells (ndV k x a u p) NdT)).cell? ⟨w.heap.size, 9, none⟩ = _ := cell_of (heap_alloc_new w (.cells (ndV k x a u p) NdT)) 9 _ rfl
  go_enter Try.func85, Try.ntmps85
  go_wp2_with fail
  refine (C3.out _ (by rw [HE.out]; exact Below.refl _ _)).mono ?_
  rw [HE.out]
  rintro ee v1 ⟨rfl, hb⟩
  have HW1 := hid hb
  have HB1 := hid (HB.out.trans (hb.mono HB.out.size))
  have K2 := hid ((hb.block _ (block_lt K1.out)).trans K1.out)
  clear hb x0 x1 x2 x3 x4 x5 x6 x7 x8 x9 HE C3 HB K1
  have x0 := cell_of K2.out 0 _ rfl; have x1 := cell_of K2.out 1 _ rfl; have x2 := cell_of K2.out 2 _ rfl; have x3 := cell_of K2.out 3 _ rfl; have x4 := cell_of K2.out 4 _ rfl; have x5 := cell_of K2.out 5 _ rfl; have x6 := cell_of K2.out 6 _ rfl; have x7 := cell_of K2.out 7 _ rfl; have x8 := cell_of K2.out 8 _ rfl; have x9 := cell_of K2.out 9 _ rfl
  go_wp2_with fail
  refine (C4.out _ HW1.out).mono ?_
  rintro ee v2 ⟨rfl, hb⟩
  have HW2 := hid (HW1.out.trans (hb.mono HW1.out.size))
  have HB2 := hid (HB1.out.trans (hb.mono HB1.out.size))
  have K3 := hid ((hb.block _ (block_lt K2.out)).trans K2.out)
  clear hb x0 x1 x2 x3 x4 x5 x6 x7 x8 x9 C4 HB1 K2 HW1 hbuild1 hbuild2
  have x0 := cell_of K3.out 0 _ rfl; have x1 := cell_of K3.out 1 _ rfl; have x2 := cell_of K3.out 2 _ rfl; have x3 := cell_of K3.out 3 _ rfl; have x4 := cell_of K3.out 4 _ rfl; have x5 := cell_of K3.out 5 _ rfl; have x6 := cell_of K3.out 6 _ rfl; have x7 := cell_of K3.out 7 _ rfl; have x8 := cell_of K3.out 8 _ rfl; have x9 := cell_of K3.out 9 _ rfl
  by_cases hk0 : k = 0
  · subst hk0
    have hs := HS.out
    rw [if_pos rfl] at hs
    have HS2 := hid hs
    clear hs HS
    cases q3 with
    | false =>
      go_wp2
      go_ret
      exact ⟨by rw [HS2.out]; rfl, HB2.out⟩
    | true =>
      go_wp2
      go_ret
      exact ⟨by rw [HS2.out]; rfl, HB2.out⟩
  · by_cases hk1 : k = 1
    · subst hk1
      have hs := HS.out
      rw [if_neg (by omega), if_pos rfl] at hs
      have HS2 := hid hs
      clear hs HS hk0
      go_wp2_with fail
      refine (CL.out _ HW2.out).mono ?_
      rintro ee v3 ⟨rfl, hb⟩
      have HB3 := hid (HB2.out.trans (hb.mono HB2.out.size))
      clear hb x0 x1 x2 x3 x4 x5 x6 x7 x8 x9 CL HB2
      cases ql with
      | false =>
        go_wp2
        go_ret
        exact ⟨by rw [HS2.out]; rfl, HB3.out⟩
      | true =>
        go_wp2
        go_ret
        exact ⟨by rw [HS2.out]; rfl, HB3.out⟩
    · by_cases hk2 : k = 2
      · subst hk2
        have hs := HS.out
        rw [if_neg (by omega), if_neg (by omega), if_pos rfl] at hs
        have HS2 := hid hs
        clear hs HS hk0 hk1
        go_wp2_with fail
        refine (CP.out _ HW2.out).mono ?_
        rintro ee v3 ⟨rfl, hb⟩
        have HB3 := hid (HB2.out.trans (hb.mono HB2.out.size))
        clear hb x0 x1 x2 x3 x4 x5 x6 x7 x8 x9 CP HB2
        cases qp with
        | false =>
          go_wp2
          go_ret
          exact ⟨by rw [HS2.out]; rfl, HB3.out⟩
        | true =>
          go_wp2
          go_ret
          exact ⟨by rw [HS2.out]; rfl, HB3.out⟩
      · have hs := HS.out
        rw [if_neg hk0, if_neg hk1, if_neg hk2] at hs
        have HS2 := hid hs
        have e0 : ((k : Int) == 0) = false := by rw [beq_eq_false_iff_ne]; omega
        have e1 : ((k : Int) == 1) = false := by rw [beq_eq_false_iff_ne]; omega
        have e2 : ((k : Int) == 2) = false := by rw [beq_eq_false_iff_ne]; omega
        clear hs HS hk0 hk1 hk2
        go_wp2
        go_ret
        exact ⟨by rw [HS2.out]; rfl, HB2.out⟩
end Go.Proofs.Ythooibljnfnnhaa
end
section
namespace Go.Proofs.Ythooibljnfnnhaa
open Go Go.RowKit
set_option linter.unusedVariables false
set_option linter.unusedSimpArgs false
theorem own_on {w w' : World} {B n : Nat} {t : TypeId} {v : Value} {xs : List Value} (h : w.ownsRow B t 1 v n xs) (hb : Below w.heap.size w w') : w'.ownsRow B t 1 v n xs :=
  World.ownsRow.kept (row := none) h ⟨hb.os, hb.tape, hb.output, hb.size, fun k hk _ => hb.block k hk⟩ (by cases hv : v.ownBlock <;> simp)
theorem own_put {w : World} {B n g : Nat} {t : TypeId} {v : Value} {xs : List Value} {cs : Array Value} (h : w.ownsRow B t 1 v n xs) (hg : g < B) : (w.setRow g cs).ownsRow B t 1 v n xs :=
  World.ownsRow.kept (row := some g) h (grown_one w g cs) (by
    rcases hb : v.ownBlock with _ | k
    · exact .inl rfl
    · exact .inr fun e => by
        have := own_lt h k hb
        simp only [Option.some.injEq] at e
        omega)
theorem own_le {w : World} {B B' n : Nat} {t : TypeId} {v : Value} {xs : List Value} (h : w.ownsRow B' t 1 v n xs) (hB : B ≤ B') : w.ownsRow B t 1 v n xs := by
  obtain ⟨hl, hv⟩ := h
  rcases hv with hv | ⟨g, cap, cur, hv, hg, hr⟩
  · exact ⟨hl, .inl hv⟩
  · exact ⟨hl, .inr ⟨g, cap, cur, hv, by omega, hr⟩⟩
theorem infoI : (Try.prog.info? 3).map (fun i => (i.zero, i.size, i.bytes)) = some (some (.int .i64 0), 1, 8) := by kernel_rfl
theorem izs_one (xs : List Int) : ∀ u ∈ izs xs, u.oneCell' = true := by
  intro u hu
  unfold izs at hu
  rw [List.mem_map] at hu
  obtain ⟨z, -, rfl⟩ := hu
  rfl
theorem copied_b (A : Option Addr) (xs : List UInt8) (c : Nat) (w : World) (hA : Lie w w.heap.size A (bvs xs)) (hb : xs.length ≤ 140737488355328) :
    Calls Try.prog 83 #[.slice A xs.length c] w fun e w' => ∃ v, e = .returned v ∧ w'.ownsRow w.heap.size 5 1 v xs.length (bvs xs) ∧ Below w.heap.size w w' := by
  go_enter Try.func83, Try.ntmps83
  go_wp2_with (at_builtin; refine wpList_append_lie rfl _ _ 25 rfl w.heap.size 5 (.int .u8 0) 1 Try.underlying25 infoU8 rfl rfl (World.ownsRow_nil w w.heap.size 5 1) (bvs_length xs) rfl hA (bvs_one xs) ?d1 ?d2 ?d3 ?_)
  case d1 => unfold maxLen; omega
  case d2 => omega
  case d3 => exact Nat.le_refl _
  intro v2 w2 hown2 hg2 hat2
  go_wp2
  go_ret
  exact ⟨v2, rfl, by simpa using hown2, (Below.refl _ _).grown hg2 (Nat.le_refl _) (fun k hk => by cases hk)⟩
theorem copied_i (A : Option Addr) (xs : List Int) (c : Nat) (w : World) (hA : Lie w w.heap.size A (izs xs)) (hb : xs.length ≤ 1000000) :
    Calls Try.prog 84 #[.slice A xs.length c] w fun e w' => ∃ v, e = .returned v ∧ w'.ownsRow w.heap.size 3 1 v xs.length (izs xs) ∧ Below w.heap.size w w' := by
  go_enter Try.func84, Try.ntmps84
  go_wp2_with (at_builtin; refine wpList_append_lie rfl _ _ 30 rfl w.heap.size 3 (.int .i64 0) 8 Try.underlying30 infoI rfl rfl (World.ownsRow_nil w w.heap.size 3 1) (izs_length xs) rfl hA (izs_one xs) ?d1 ?d2 ?d3 ?_)
  case d1 => unfold maxLen; omega
  case d2 => omega
  case d3 => exact Nat.le_refl _
  intro v2 w2 hown2 hg2 hat2
  go_wp2
  go_ret
  exact ⟨v2, rfl, by simpa using hown2, (Below.refl _ _).grown hg2 (Nat.le_refl _) (fun k hk => by cases hk)⟩
section
variable {P : Program} {md : Region.Mode} {ops : Array Oper} {Q : Exit → Act → World → Prop} {n : Nat}
/-- A call in a drawn region that answers a row of its own. -/
theorem wpGrA_own {g f m : Nat} {l : List Oper} {i : Nat} {oi : Oper} {listed : Array Bool} {a : Act} {w0 : World} {fn : FuncId} {args : Array Value} (t : TypeId) (xs : List Value) (hi : ops[i]? = some oi) (hrd : (Region.ready md ops listed == [i] && decide (i < n)) = true)
    (hw : Region.wanted oi (yielded ops a.tmps) = true) (hr : ∀ w', (execOp a.eval oi).run P w' = .ok (.enter fn args) w')
    (hc : ∀ w', Below w0.heap.size w0 w' → Calls P fn args w' (fun e w'' => ∃ v, e = .returned v ∧ w''.ownsRow w'.heap.size t 1 v m xs ∧ Below w'.heap.size w' w''))
    (h : ∀ A c w2, Below w0.heap.size w0 w2 → w2.ownsRow w0.heap.size t 1 (.slice A m c) m xs → wpGrA P md ops Q n (GrL P md ops Q g n l) w2 f (listed.setIfInBounds i true) (a.put oi.dst (.slice A m c))) : wpGrA P md ops Q n (GrL P md ops Q g n l) w0 (f + 1) listed a :=
  wpGrA_call (fun w' v w'' => w''.ownsRow w0.heap.size t 1 v m xs) hi hrd hw hr (fun w' hb => (hc w' hb).mono fun e w'' ⟨v, he, h1, h2⟩ => ⟨v, he, h2, own_le h1 hb.size⟩)
    fun w' v w'' hb hb2 h1 => by
      obtain ⟨A, c, rfl, -⟩ := own_sl h1
      exact h A c w'' (hb.trans (hb2.mono hb.size)) h1
end
abbrev prZ : Array Value := #[.slice none 0 0, .slice none 0 0, .slice none 0 0]
theorem prZ_size {x : Pnt} {a : PA} : prZ.size = (prV x a).size := rfl
theorem prV_one {x : Pnt} {a : PA} : (prV x a).all (·.oneCell') = true := by simp [Value.oneCell']
def PrOwn (W w' : World) (u : Pnt) (q : PA) : Prop := OwnB w' W.heap.size (.slice q.a0 u.box.length q.c0) u.box ∧ OwnB w' W.heap.size (.slice q.a1 u.hash.length q.c1) u.hash ∧ w'.ownsRow W.heap.size 3 1 (.slice q.a2 u.late.length q.c2) u.late.length (izs u.late)
set_option maxHeartbeats 2000000 in
theorem copyLeaf_e (x : Lf) (a : LA) (w : World) (hx : LfIn w x a) (hl : x.box.length ≤ 1000000 ∧ x.sign.length ≤ 1000000 ∧ x.ident.length ≤ 1000000 ∧ x.par.length ≤ 1000000 ∧ x.sig.length ≤ 1000000) : Calls Try.prog 62 #[.agg (lfV x a)] w fun e w' => ∃ b, e = .returned (.agg (lfV x b)) ∧ LfOwn w w' x b ∧ Below w.heap.size w w' := by
  have K1 : Hid (((w.alloc (.cells (lfV x a) LfT)).alloc (.cells lfZ LfT)).heap[w.heap.size]? = some (.cells (lfV x a) LfT (0, 0))) := hid ((Below.heap_alloc _ _ w.heap.size (by simp)).trans (heap_alloc_new w (.cells (lfV x a) LfT)))
  have K2 : Hid (((w.alloc (.cells (lfV x a) LfT)).alloc (.cells lfZ LfT)).heap[w.heap.size + 1]? = some (.cells lfZ LfT (0, 0))) := hid (by have h := heap_alloc_new (w.alloc (.cells (lfV x a) LfT)) (.cells lfZ LfT); simpa using h)
  have HW0 : Hid (Below w.heap.size w ((w.alloc (.cells (lfV x a) LfT)).alloc (.cells lfZ LfT))) := hid (((Below.refl _ _).alloc (Nat.le_refl _) _).alloc (by simp) _)
  have HSZ : Hid (((w.alloc (.cells (lfV x a) LfT)).alloc (.cells lfZ LfT)).heap.size = w.heap.size + 2) := hid (by simp)
  have HX := hid (hx.on HW0.out)
  obtain ⟨W, hW⟩ : ∃ W, W = ((w.alloc (.cells (lfV x a) LfT)).alloc (.cells lfZ LfT)) := ⟨_, rfl⟩
  have e : (w.alloc (.cells #[.slice a.a0 x.box.length a.c0, .slice a.a1 x.sign.length a.c1, .slice a.a2 x.ident.length a.c2, .int .u8 (x.src : Int), .slice a.a3 x.par.length a.c3, .slice a.a4 x.sig.length a.c4] LfT)).alloc (.cells lfZ LfT) = W := hW.symm
  have HE := hid e
  rw [← hW] at K1 K2 HW0 HSZ HX
  have HC : Hid (∀ w', Below W.heap.size W w' → (w'.cell? ⟨w.heap.size, 0, none⟩ = some (.slice a.a0 x.box.length a.c0) ∧ w'.cell? ⟨w.heap.size, 1, none⟩ = some (.slice a.a1 x.sign.length a.c1) ∧ w'.cell? ⟨w.heap.size, 2, none⟩ = some (.slice a.a2 x.ident.length a.c2) ∧ w'.cell? ⟨w.heap.size, 3, none⟩ = some (.int .u8 (x.src : Int)) ∧ w'.cell? ⟨w.heap.size, 4, none⟩ = some (.slice a.a3 x.par.length a.c3) ∧ w'.cell? ⟨w.heap.size, 5, none⟩ = some (.slice a.a4 x.sig.length a.c4))) := hid fun w' h => by
    have K3 := (h.block _ (block_lt K1.out)).trans K1.out
    exact ⟨cell_of K3 0 _ rfl, cell_of K3 1 _ rfl, cell_of K3 2 _ rfl, cell_of K3 3 _ rfl, cell_of K3 4 _ rfl, cell_of K3 5 _ rfl⟩
  have HP0 : Hid (∀ V, Below W.heap.size W V → Calls Try.prog 83 #[.slice a.a0 x.box.length a.c0] V fun e w' => ∃ v, e = .returned v ∧ w'.ownsRow V.heap.size 5 1 v x.box.length (bvs x.box) ∧ Below V.heap.size V w') := hid fun V h => copied_b _ _ _ V (lie_on HX.out.1 h) (by have := hl.1; omega)
  have HP1 : Hid (∀ V, Below W.heap.size W V → Calls Try.prog 83 #[.slice a.a1 x.sign.length a.c1] V fun e w' => ∃ v, e = .returned v ∧ w'.ownsRow V.heap.size 5 1 v x.sign.length (bvs x.sign) ∧ Below V.heap.size V w') := hid fun V h => copied_b _ _ _ V (lie_on HX.out.2.1 h) (by have := hl.2.1; omega)
  have HP2 : Hid (∀ V, Below W.heap.size W V → Calls Try.prog 83 #[.slice a.a2 x.ident.length a.c2] V fun e w' => ∃ v, e = .returned v ∧ w'.ownsRow V.heap.size 5 1 v x.ident.length (bvs x.ident) ∧ Below V.heap.size V w') := hid fun V h => copied_b _ _ _ V (lie_on HX.out.2.2.1 h) (by have := hl.2.2.1; omega)
  have HP3 : Hid (∀ V, Below W.heap.size W V → Calls Try.prog 83 #[.slice a.a3 x.par.length a.c3] V fun e w' => ∃ v, e = .returned v ∧ w'.ownsRow V.heap.size 5 1 v x.par.length (bvs x.par) ∧ Below V.heap.size V w') := hid fun V h => copied_b _ _ _ V (lie_on HX.out.2.2.2.1 h) (by have := hl.2.2.2.1; omega)
  have HP4 : Hid (∀ V, Below W.heap.size W V → Calls Try.prog 83 #[.slice a.a4 x.sig.length a.c4] V fun e w' => ∃ v, e = .returned v ∧ w'.ownsRow V.heap.size 5 1 v x.sig.length (bvs x.sig) ∧ Below V.heap.size V w') := hid fun V h => copied_b _ _ _ V (lie_on HX.out.2.2.2.2 h) (by have := hl.2.2.2.2; omega)
  clear hx hl hW HX e
  go_enter Try.func62, Try.ntmps62
  go_upto_region 1 with fail
  rw [HE.out]
  have HB : Hid (Below W.heap.size W W) := hid (Below.refl _ _)
  refine wp_region_grA 17 (by kernel_rfl) (by decide) ?_
  refine wpGrA_take (i := 0) (.pointer (some ⟨w.heap.size, 0, none⟩)) rfl (by kernel_rfl) (by kernel_rfl) (fun _ _ _ h => h) (yG_val _ (by rfl) (fun w' _ => by (go_simp; try rfl))) ?_
  (try simp only [Act.put, List.getElem_toArray, List.getElem_cons_succ, List.getElem_cons_zero, List.setIfInBounds_toArray, List.set_cons_zero, List.set_cons_succ])
  refine wpGrA_take (i := 1) (.slice a.a0 x.box.length a.c0) rfl (by kernel_rfl) (by kernel_rfl) (fun _ _ _ h => h) (yG_val _ (by rfl) (fun w' hb => by have c := (HC.out w' hb).1; (go_simp; try rfl))) ?_
  (try simp only [Act.put, List.getElem_toArray, List.getElem_cons_succ, List.getElem_cons_zero, List.setIfInBounds_toArray, List.set_cons_zero, List.set_cons_succ])
  refine wpGrA_take (i := 3) (.pointer (some ⟨w.heap.size, 1, none⟩)) rfl (by kernel_rfl) (by kernel_rfl) (fun _ _ _ h => h) (yG_val _ (by rfl) (fun w' _ => by (go_simp; try rfl))) ?_
  (try simp only [Act.put, List.getElem_toArray, List.getElem_cons_succ, List.getElem_cons_zero, List.setIfInBounds_toArray, List.set_cons_zero, List.set_cons_succ])
  refine wpGrA_take (i := 4) (.slice a.a1 x.sign.length a.c1) rfl (by kernel_rfl) (by kernel_rfl) (fun _ _ _ h => h) (yG_val _ (by rfl) (fun w' hb => by have c := (HC.out w' hb).2.1; (go_simp; try rfl))) ?_
  (try simp only [Act.put, List.getElem_toArray, List.getElem_cons_succ, List.getElem_cons_zero, List.setIfInBounds_toArray, List.set_cons_zero, List.set_cons_succ])
  refine wpGrA_take (i := 6) (.pointer (some ⟨w.heap.size, 2, none⟩)) rfl (by kernel_rfl) (by kernel_rfl) (fun _ _ _ h => h) (yG_val _ (by rfl) (fun w' _ => by (go_simp; try rfl))) ?_
  (try simp only [Act.put, List.getElem_toArray, List.getElem_cons_succ, List.getElem_cons_zero, List.setIfInBounds_toArray, List.set_cons_zero, List.set_cons_succ])
  refine wpGrA_take (i := 7) (.slice a.a2 x.ident.length a.c2) rfl (by kernel_rfl) (by kernel_rfl) (fun _ _ _ h => h) (yG_val _ (by rfl) (fun w' hb => by have c := (HC.out w' hb).2.2.1; (go_simp; try rfl))) ?_
  (try simp only [Act.put, List.getElem_toArray, List.getElem_cons_succ, List.getElem_cons_zero, List.setIfInBounds_toArray, List.set_cons_zero, List.set_cons_succ])
  refine wpGrA_take (i := 9) (.pointer (some ⟨w.heap.size, 3, none⟩)) rfl (by kernel_rfl) (by kernel_rfl) (fun _ _ _ h => h) (yG_val _ (by rfl) (fun w' _ => by (go_simp; try rfl))) ?_
  (try simp only [Act.put, List.getElem_toArray, List.getElem_cons_succ, List.getElem_cons_zero, List.setIfInBounds_toArray, List.set_cons_zero, List.set_cons_succ])
  refine wpGrA_take (i := 10) (.int .u8 (x.src : Int)) rfl (by kernel_rfl) (by kernel_rfl) (fun _ _ _ h => h) (yG_val _ (by rfl) (fun w' hb => by have c := (HC.out w' hb).2.2.2.1; (go_simp; try rfl))) ?_
  (try simp only [Act.put, List.getElem_toArray, List.getElem_cons_succ, List.getElem_cons_zero, List.setIfInBounds_toArray, List.set_cons_zero, List.set_cons_succ])
  refine wpGrA_take (i := 11) (.pointer (some ⟨w.heap.size, 4, none⟩)) rfl (by kernel_rfl) (by kernel_rfl) (fun _ _ _ h => h) (yG_val _ (by rfl) (fun w' _ => by (go_simp; try rfl))) ?_
  (try simp only [Act.put, List.getElem_toArray, List.getElem_cons_succ, List.getElem_cons_zero, List.setIfInBounds_toArray, List.set_cons_zero, List.set_cons_succ])
  refine wpGrA_take (i := 12) (.slice a.a3 x.par.length a.c3) rfl (by kernel_rfl) (by kernel_rfl) (fun _ _ _ h => h) (yG_val _ (by rfl) (fun w' hb => by have c := (HC.out w' hb).2.2.2.2.1; (go_simp; try rfl))) ?_
  (try simp only [Act.put, List.getElem_toArray, List.getElem_cons_succ, List.getElem_cons_zero, List.setIfInBounds_toArray, List.set_cons_zero, List.set_cons_succ])
  refine wpGrA_take (i := 14) (.pointer (some ⟨w.heap.size, 5, none⟩)) rfl (by kernel_rfl) (by kernel_rfl) (fun _ _ _ h => h) (yG_val _ (by rfl) (fun w' _ => by (go_simp; try rfl))) ?_
  (try simp only [Act.put, List.getElem_toArray, List.getElem_cons_succ, List.getElem_cons_zero, List.setIfInBounds_toArray, List.set_cons_zero, List.set_cons_succ])
  refine wpGrA_take (i := 15) (.slice a.a4 x.sig.length a.c4) rfl (by kernel_rfl) (by kernel_rfl) (fun _ _ _ h => h) (yG_val _ (by rfl) (fun w' hb => by have c := (HC.out w' hb).2.2.2.2.2; (go_simp; try rfl))) ?_
  (try simp only [Act.put, List.getElem_toArray, List.getElem_cons_succ, List.getElem_cons_zero, List.setIfInBounds_toArray, List.set_cons_zero, List.set_cons_succ])
  refine wpGrA_own (i := 2) 5 (bvs x.box) rfl (by kernel_rfl) (by rfl) (fun w' => by go_simp) (fun w' hb => HP0.out w' (HB.out.trans (hb.mono HB.out.size))) ?_
  intro D0 e0 v0 hb ho
  have O0 := hid (own_le ho HB.out.size)
  have HBn := hid (HB.out.trans (hb.mono HB.out.size))
  clear hb ho HB HP0 
  have HB := HBn
  clear HBn 
  (try simp only [Act.put, List.getElem_toArray, List.getElem_cons_succ, List.getElem_cons_zero, List.setIfInBounds_toArray, List.set_cons_zero, List.set_cons_succ])
  refine wpGrA_own (i := 5) 5 (bvs x.sign) rfl (by kernel_rfl) (by rfl) (fun w' => by go_simp) (fun w' hb => HP1.out w' (HB.out.trans (hb.mono HB.out.size))) ?_
  intro D1 e1 v1 hb ho
  have O0n := hid (own_on O0.out hb)
  have O1 := hid (own_le ho HB.out.size)
  have HBn := hid (HB.out.trans (hb.mono HB.out.size))
  clear hb ho HB HP1 O0
  have HB := HBn
  have O0 := O0n
  clear HBn O0n
  (try simp only [Act.put, List.getElem_toArray, List.getElem_cons_succ, List.getElem_cons_zero, List.setIfInBounds_toArray, List.set_cons_zero, List.set_cons_succ])
  refine wpGrA_own (i := 8) 5 (bvs x.ident) rfl (by kernel_rfl) (by rfl) (fun w' => by go_simp) (fun w' hb => HP2.out w' (HB.out.trans (hb.mono HB.out.size))) ?_
  intro D2 e2 v2 hb ho
  have O0n := hid (own_on O0.out hb)
  have O1n := hid (own_on O1.out hb)
  have O2 := hid (own_le ho HB.out.size)
  have HBn := hid (HB.out.trans (hb.mono HB.out.size))
  clear hb ho HB HP2 O0 O1
  have HB := HBn
  have O0 := O0n
  have O1 := O1n
  clear HBn O0n O1n
  (try simp only [Act.put, List.getElem_toArray, List.getElem_cons_succ, List.getElem_cons_zero, List.setIfInBounds_toArray, List.set_cons_zero, List.set_cons_succ])
  refine wpGrA_own (i := 13) 5 (bvs x.par) rfl (by kernel_rfl) (by rfl) (fun w' => by go_simp) (fun w' hb => HP3.out w' (HB.out.trans (hb.mono HB.out.size))) ?_
  intro D3 e3 v3 hb ho
  have O0n := hid (own_on O0.out hb)
  have O1n := hid (own_on O1.out hb)
  have O2n := hid (own_on O2.out hb)
  have O3 := hid (own_le ho HB.out.size)
  have HBn := hid (HB.out.trans (hb.mono HB.out.size))
  clear hb ho HB HP3 O0 O1 O2
  have HB := HBn
  have O0 := O0n
  have O1 := O1n
  have O2 := O2n
  clear HBn O0n O1n O2n
  (try simp only [Act.put, List.getElem_toArray, List.getElem_cons_succ, List.getElem_cons_zero, List.setIfInBounds_toArray, List.set_cons_zero, List.set_cons_succ])
  refine wpGrA_own (i := 16) 5 (bvs x.sig) rfl (by kernel_rfl) (by rfl) (fun w' => by go_simp) (fun w' hb => HP4.out w' (HB.out.trans (hb.mono HB.out.size))) ?_
  intro D4 e4 v4 hb ho
  have O0n := hid (own_on O0.out hb)
  have O1n := hid (own_on O1.out hb)
  have O2n := hid (own_on O2.out hb)
  have O3n := hid (own_on O3.out hb)
  have O4 := hid (own_le ho HB.out.size)
  have HBn := hid (HB.out.trans (hb.mono HB.out.size))
  clear hb ho HB HP4 O0 O1 O2 O3
  have HB := HBn
  have O0 := O0n
  have O1 := O1n
  have O2 := O2n
  have O3 := O3n
  clear HBn O0n O1n O2n O3n
  (try simp only [Act.put, List.getElem_toArray, List.getElem_cons_succ, List.getElem_cons_zero, List.setIfInBounds_toArray, List.set_cons_zero, List.set_cons_succ])
  refine wpGrA_end (by kernel_rfl) ?_
  intro wz hb
  have O0n := hid (own_on O0.out hb)
  have O1n := hid (own_on O1.out hb)
  have O2n := hid (own_on O2.out hb)
  have O3n := hid (own_on O3.out hb)
  have O4n := hid (own_on O4.out hb)
  have HBn := hid (HB.out.trans (hb.mono HB.out.size))
  clear hb HB O0 O1 O2 O3 O4
  have K3 := hid ((HBn.out.block _ (block_lt K2.out)).trans K2.out)
  have hbuild : ∀ V : World, (Instr.build LfT #[(0, .slice D0 x.box.length e0), (1, .slice D1 x.sign.length e1), (2, .slice D2 x.ident.length e2), (3, .int .u8 (x.src : Int)), (4, .slice D3 x.par.length e3), (5, .slice D4 x.sig.length e4)]).run Try.prog V = .ok (.agg (lfV x ⟨D0, D1, D2, D3, D4, e0, e1, e2, e3, e4⟩)) V := fun V => run_build V LfT _ _ (by kernel_rfl)
  simp only [List.drop_succ_cons, List.drop_zero]
  go_wp2_with (with_reducible refine wpList_store_row rfl LfT (.tmp 2) _ rfl (w.heap.size + 1) (lfV x ⟨D0, D1, D2, D3, D4, e0, e1, e2, e3, e4⟩) rfl rfl LfT lfZ K3.out infoLf lfZ_size lfV_one ?_)
  have KZ := setRow_heap _ (w.heap.size + 1) lfZ (lfV x ⟨D0, D1, D2, D3, D4, e0, e1, e2, e3, e4⟩) LfT (0, 0) K3.out
  have hsz := HSZ.out
  exact bodyPost_ret (v := .agg (lfV x ⟨D0, D1, D2, D3, D4, e0, e1, e2, e3, e4⟩)) (results_cell_row rfl _ _ (w.heap.size + 1) LfT (lfV x ⟨D0, D1, D2, D3, D4, e0, e1, e2, e3, e4⟩) (0, 0) _ rfl KZ Try.underlying27 rfl infoLf) rfl ⟨⟨D0, D1, D2, D3, D4, e0, e1, e2, e3, e4⟩, rfl, ⟨own_le (own_put O0n.out (by omega)) (by omega), own_le (own_put O1n.out (by omega)) (by omega), own_le (own_put O2n.out (by omega)) (by omega), own_le (own_put O3n.out (by omega)) (by omega), own_le (own_put O4n.out (by omega)) (by omega)⟩, (HW0.out.trans (HBn.out.mono HW0.out.size)).trans (below_put _ _ _ (by omega))⟩
set_option maxHeartbeats 2000000 in
theorem copyParent_e (u : Pnt) (p : PA) (w : World) (hx : PrIn w u p) (hl : PrM u) : Calls Try.prog 63 #[.agg (prV u p)] w fun e w' => ∃ b, e = .returned (.agg (prV u b)) ∧ PrOwn w w' u b ∧ Below w.heap.size w w' := by
  have K1 : Hid (((w.alloc (.cells (prV u p) PrT)).alloc (.cells prZ PrT)).heap[w.heap.size]? = some (.cells (prV u p) PrT (0, 0))) := hid ((Below.heap_alloc _ _ w.heap.size (by simp)).trans (heap_alloc_new w (.cells (prV u p) PrT)))
  have K2 : Hid (((w.alloc (.cells (prV u p) PrT)).alloc (.cells prZ PrT)).heap[w.heap.size + 1]? = some (.cells prZ PrT (0, 0))) := hid (by have h := heap_alloc_new (w.alloc (.cells (prV u p) PrT)) (.cells prZ PrT); simpa using h)
  have HW0 : Hid (Below w.heap.size w ((w.alloc (.cells (prV u p) PrT)).alloc (.cells prZ PrT))) := hid (((Below.refl _ _).alloc (Nat.le_refl _) _).alloc (by simp) _)
  have HSZ : Hid (((w.alloc (.cells (prV u p) PrT)).alloc (.cells prZ PrT)).heap.size = w.heap.size + 2) := hid (by simp)
  have HX := hid (hx.on HW0.out)
  obtain ⟨W, hW⟩ : ∃ W, W = ((w.alloc (.cells (prV u p) PrT)).alloc (.cells prZ PrT)) := ⟨_, rfl⟩
  have e : (w.alloc (.cells #[.slice p.a0 u.box.length p.c0, .slice p.a1 u.hash.length p.c1, .slice p.a2 u.late.length p.c2] PrT)).alloc (.cells prZ PrT) = W := hW.symm
  have HE := hid e
  rw [← hW] at K1 K2 HW0 HSZ HX
  have HC : Hid (∀ w', Below W.heap.size W w' → (w'.cell? ⟨w.heap.size, 0, none⟩ = some (.slice p.a0 u.box.length p.c0) ∧ w'.cell? ⟨w.heap.size, 1, none⟩ = some (.slice p.a1 u.hash.length p.c1) ∧ w'.cell? ⟨w.heap.size, 2, none⟩ = some (.slice p.a2 u.late.length p.c2))) := hid fun w' h => by
    have K3 := (h.block _ (block_lt K1.out)).trans K1.out
    exact ⟨cell_of K3 0 _ rfl, cell_of K3 1 _ rfl, cell_of K3 2 _ rfl⟩
  have HP0 : Hid (∀ V, Below W.heap.size W V → Calls Try.prog 83 #[.slice p.a0 u.box.length p.c0] V fun e w' => ∃ v, e = .returned v ∧ w'.ownsRow V.heap.size 5 1 v u.box.length (bvs u.box) ∧ Below V.heap.size V w') := hid fun V h => copied_b _ _ _ V (lie_on HX.out.1 h) (by have := hl.1; omega)
  have HP1 : Hid (∀ V, Below W.heap.size W V → Calls Try.prog 83 #[.slice p.a1 u.hash.length p.c1] V fun e w' => ∃ v, e = .returned v ∧ w'.ownsRow V.heap.size 5 1 v u.hash.length (bvs u.hash) ∧ Below V.heap.size V w') := hid fun V h => copied_b _ _ _ V (lie_on HX.out.2.1 h) (by have := hl.2.1; omega)
  have HP2 : Hid (∀ V, Below W.heap.size W V → Calls Try.prog 84 #[.slice p.a2 u.late.length p.c2] V fun e w' => ∃ v, e = .returned v ∧ w'.ownsRow V.heap.size 3 1 v u.late.length (izs u.late) ∧ Below V.heap.size V w') := hid fun V h => copied_i _ _ _ V (lie_on HX.out.2.2 h) (by have := hl.2.2; omega)
  clear hx hl hW HX e
  go_enter Try.func63, Try.ntmps63
  go_upto_region 1 with fail
  rw [HE.out]
  have HB : Hid (Below W.heap.size W W) := hid (Below.refl _ _)
  refine wp_region_grA 9 (by kernel_rfl) (by decide) ?_
  refine wpGrA_take (i := 0) (.pointer (some ⟨w.heap.size, 0, none⟩)) rfl (by kernel_rfl) (by kernel_rfl) (fun _ _ _ h => h) (yG_val _ (by rfl) (fun w' _ => by (go_simp; try rfl))) ?_
  (try simp only [Act.put, List.getElem_toArray, List.getElem_cons_succ, List.getElem_cons_zero, List.setIfInBounds_toArray, List.set_cons_zero, List.set_cons_succ])
  refine wpGrA_take (i := 1) (.slice p.a0 u.box.length p.c0) rfl (by kernel_rfl) (by kernel_rfl) (fun _ _ _ h => h) (yG_val _ (by rfl) (fun w' hb => by have c := (HC.out w' hb).1; (go_simp; try rfl))) ?_
  (try simp only [Act.put, List.getElem_toArray, List.getElem_cons_succ, List.getElem_cons_zero, List.setIfInBounds_toArray, List.set_cons_zero, List.set_cons_succ])
  refine wpGrA_take (i := 3) (.pointer (some ⟨w.heap.size, 1, none⟩)) rfl (by kernel_rfl) (by kernel_rfl) (fun _ _ _ h => h) (yG_val _ (by rfl) (fun w' _ => by (go_simp; try rfl))) ?_
  (try simp only [Act.put, List.getElem_toArray, List.getElem_cons_succ, List.getElem_cons_zero, List.setIfInBounds_toArray, List.set_cons_zero, List.set_cons_succ])
  refine wpGrA_take (i := 4) (.slice p.a1 u.hash.length p.c1) rfl (by kernel_rfl) (by kernel_rfl) (fun _ _ _ h => h) (yG_val _ (by rfl) (fun w' hb => by have c := (HC.out w' hb).2.1; (go_simp; try rfl))) ?_
  (try simp only [Act.put, List.getElem_toArray, List.getElem_cons_succ, List.getElem_cons_zero, List.setIfInBounds_toArray, List.set_cons_zero, List.set_cons_succ])
  refine wpGrA_take (i := 6) (.pointer (some ⟨w.heap.size, 2, none⟩)) rfl (by kernel_rfl) (by kernel_rfl) (fun _ _ _ h => h) (yG_val _ (by rfl) (fun w' _ => by (go_simp; try rfl))) ?_
  (try simp only [Act.put, List.getElem_toArray, List.getElem_cons_succ, List.getElem_cons_zero, List.setIfInBounds_toArray, List.set_cons_zero, List.set_cons_succ])
  refine wpGrA_take (i := 7) (.slice p.a2 u.late.length p.c2) rfl (by kernel_rfl) (by kernel_rfl) (fun _ _ _ h => h) (yG_val _ (by rfl) (fun w' hb => by have c := (HC.out w' hb).2.2; (go_simp; try rfl))) ?_
  (try simp only [Act.put, List.getElem_toArray, List.getElem_cons_succ, List.getElem_cons_zero, List.setIfInBounds_toArray, List.set_cons_zero, List.set_cons_succ])
  refine wpGrA_own (i := 2) 5 (bvs u.box) rfl (by kernel_rfl) (by rfl) (fun w' => by go_simp) (fun w' hb => HP0.out w' (HB.out.trans (hb.mono HB.out.size))) ?_
  intro D0 e0 v0 hb ho
  have O0 := hid (own_le ho HB.out.size)
  have HBn := hid (HB.out.trans (hb.mono HB.out.size))
  clear hb ho HB HP0 
  have HB := HBn
  clear HBn 
  (try simp only [Act.put, List.getElem_toArray, List.getElem_cons_succ, List.getElem_cons_zero, List.setIfInBounds_toArray, List.set_cons_zero, List.set_cons_succ])
  refine wpGrA_own (i := 5) 5 (bvs u.hash) rfl (by kernel_rfl) (by rfl) (fun w' => by go_simp) (fun w' hb => HP1.out w' (HB.out.trans (hb.mono HB.out.size))) ?_
  intro D1 e1 v1 hb ho
  have O0n := hid (own_on O0.out hb)
  have O1 := hid (own_le ho HB.out.size)
  have HBn := hid (HB.out.trans (hb.mono HB.out.size))
  clear hb ho HB HP1 O0
  have HB := HBn
  have O0 := O0n
  clear HBn O0n
  (try simp only [Act.put, List.getElem_toArray, List.getElem_cons_succ, List.getElem_cons_zero, List.setIfInBounds_toArray, List.set_cons_zero, List.set_cons_succ])
  refine wpGrA_own (i := 8) 3 (izs u.late) rfl (by kernel_rfl) (by rfl) (fun w' => by go_simp) (fun w' hb => HP2.out w' (HB.out.trans (hb.mono HB.out.size))) ?_
  intro D2 e2 v2 hb ho
  have O0n := hid (own_on O0.out hb)
  have O1n := hid (own_on O1.out hb)
  have O2 := hid (own_le ho HB.out.size)
  have HBn := hid (HB.out.trans (hb.mono HB.out.size))
  clear hb ho HB HP2 O0 O1
  have HB := HBn
  have O0 := O0n
  have O1 := O1n
  clear HBn O0n O1n
  (try simp only [Act.put, List.getElem_toArray, List.getElem_cons_succ, List.getElem_cons_zero, List.setIfInBounds_toArray, List.set_cons_zero, List.set_cons_succ])
  refine wpGrA_end (by kernel_rfl) ?_
  intro wz hb
  have O0n := hid (own_on O0.out hb)
  have O1n := hid (own_on O1.out hb)
  have O2n := hid (own_on O2.out hb)
  have HBn := hid (HB.out.trans (hb.mono HB.out.size))
  clear hb HB O0 O1 O2
  have K3 := hid ((HBn.out.block _ (block_lt K2.out)).trans K2.out)
  have hbuild : ∀ V : World, (Instr.build PrT #[(0, .slice D0 u.box.length e0), (1, .slice D1 u.hash.length e1), (2, .slice D2 u.late.length e2)]).run Try.prog V = .ok (.agg (prV u ⟨D0, D1, D2, e0, e1, e2⟩)) V := fun V => run_build V PrT _ _ (by kernel_rfl)
  simp only [List.drop_succ_cons, List.drop_zero]
  go_wp2_with (with_reducible refine wpList_store_row rfl PrT (.tmp 2) _ rfl (w.heap.size + 1) (prV u ⟨D0, D1, D2, e0, e1, e2⟩) rfl rfl PrT prZ K3.out infoPr prZ_size prV_one ?_)
  have KZ := setRow_heap _ (w.heap.size + 1) prZ (prV u ⟨D0, D1, D2, e0, e1, e2⟩) PrT (0, 0) K3.out
  have hsz := HSZ.out
  exact bodyPost_ret (v := .agg (prV u ⟨D0, D1, D2, e0, e1, e2⟩)) (results_cell_row rfl _ _ (w.heap.size + 1) PrT (prV u ⟨D0, D1, D2, e0, e1, e2⟩) (0, 0) _ rfl KZ Try.underlying36 rfl infoPr) rfl ⟨⟨D0, D1, D2, e0, e1, e2⟩, rfl, ⟨own_le (own_put O0n.out (by omega)) (by omega), own_le (own_put O1n.out (by omega)) (by omega), own_le (own_put O2n.out (by omega)) (by omega)⟩, (HW0.out.trans (HBn.out.mono HW0.out.size)).trans (below_put _ _ _ (by omega))⟩
end Go.Proofs.Ythooibljnfnnhaa
end
section
namespace Go.Proofs.Ythooibljnfnnhaa
open Go Go.RowKit
set_option linter.unusedVariables false
set_option linter.unusedSimpArgs false
theorem retQ_own {P : Program} {f : FuncId} {args : Array Value} {W : World} {xs : List UInt8} (h : Calls P f args W fun e w' => ∃ v, e = .returned v ∧ OwnB w' W.heap.size v xs ∧ Below W.heap.size W w') : Calls P f args W (RetQ W xs) := h.mono fun e w' ⟨v, he, ho, hb⟩ => by
  obtain ⟨A, c, rfl, hs⟩ := own_sl ho
  exact ⟨A, c, he, hs.sq, hb⟩
theorem PutVecQ (A : Option Addr) (xs : List UInt8) (c : Nat) (A' : Option Addr) (ys : List UInt8) (c' : Nat) (W : World) (hn : ys.length ≤ 1000000) (hx : xs.length ≤ 10000000) (hA : Lie W W.heap.size A (bvs xs)) (hA' : Lie W W.heap.size A' (bvs ys)) :
    Calls Try.prog 87 #[.slice A xs.length c, .slice A' ys.length c'] W (RetQ W (xs ++ vecBytes ys)) := retQ_own (PutVec_ok A xs c A' ys c' W (by omega) hA hA' (by omega))
theorem PutVecN (A' : Option Addr) (ys : List UInt8) (c' : Nat) (W : World) (hn : ys.length ≤ 1000000) (hA' : Lie W W.heap.size A' (bvs ys)) :
    Calls Try.prog 87 #[.slice none 0 0, .slice A' ys.length c'] W (RetQ W (vecBytes ys)) := PutVecQ none [] 0 A' ys c' W hn (by simp) Lie.nil hA'
theorem PutNumQ (A : Option Addr) (xs : List UInt8) (c s n : Nat) (W : World) (hs : s = 1 ∨ s = 2 ∨ s = 4 ∨ s = 8) (hn : n < 18446744073709551616) (hx : xs.length ≤ 10000000) (hA : Lie W W.heap.size A (bvs xs)) :
    Calls Try.prog 86 #[.slice A xs.length c, .int .i64 (s : Int), .int .u64 (n : Int)] W (RetQ W (xs ++ beBytes s n)) := retQ_own (PutNum_ok A xs c s n W hs hn hA (by omega))
theorem PutNumN (s n : Nat) (W : World) (hs : s = 1 ∨ s = 2 ∨ s = 4 ∨ s = 8) (hn : n < 18446744073709551616) :
    Calls Try.prog 86 #[.slice none 0 0, .int .i64 (s : Int), .int .u64 (n : Int)] W fun e w' => ∃ v, e = .returned v ∧ OwnB w' W.heap.size v (beBytes s n) ∧ Below W.heap.size W w' := PutNum_ok none [] 0 s n W hs hn Lie.nil (by simp)
theorem be1_src (n : Nat) : beBytes 1 n = [UInt8.ofNat n] := by simp [beBytes]
theorem u64_nat (n : Nat) (h : n < 1000000000) : IntKind.u64.wrap (n : Int) = (n : Int) := by show (n : Int) % 18446744073709551616 = n; omega
theorem ahead_is (x : Lf) : aheadB x = ((vecBytes x.box ++ vecBytes x.sign) ++ vecBytes x.ident) ++ beBytes 1 x.src ++ (if x.src = 3 then vecBytes x.par else []) := by unfold aheadB; rw [be1_src]; simp only [List.append_assoc]
set_option maxHeartbeats 2000000 in
theorem putUnsigned_e (x : Lf) (a : LA) (w : World) (hx : LfIn w x a) (hl : Lf200 x) : Calls Try.prog 88 #[.agg (lfV x a)] w (RetQ w (aheadB x)) := by
  have K1 := hid (heap_alloc_new w (.cells (lfV x a) LfT))
  have HW0 : Hid (Below w.heap.size w (w.alloc (.cells (lfV x a) LfT))) := hid ((Below.refl _ _).alloc (Nat.le_refl _) _)
  have HX := hid (hx.on HW0.out)
  obtain ⟨W, hW⟩ : ∃ W, W = w.alloc (.cells (lfV x a) LfT) := ⟨_, rfl⟩
  have HE : Hid (w.alloc (.cells #[.slice a.a0 x.box.length a.c0, .slice a.a1 x.sign.length a.c1, .slice a.a2 x.ident.length a.c2, .int .u8 (x.src : Int), .slice a.a3 x.par.length a.c3, .slice a.a4 x.sig.length a.c4] LfT) = W) := hid hW.symm
  rw [← hW] at K1 HW0 HX
  have HV1 : Hid (∀ V, Below W.heap.size W V → Calls Try.prog 87 #[.slice none 0 0, .slice a.a0 x.box.length a.c0] V (RetQ V (vecBytes x.box))) := hid fun V h => PutVecN _ _ _ V (by have := hl.1; omega) (lie_to HX.out.1 h)
  have HV2 : Hid (∀ V A b c, Below W.heap.size W V → b.length ≤ 1000000 → Lie V V.heap.size A (bvs b) → Calls Try.prog 87 #[.slice A b.length c, .slice a.a1 x.sign.length a.c1] V (RetQ V (b ++ vecBytes x.sign))) := hid fun V A b c h hb hq => PutVecQ _ _ _ _ _ _ V (by have := hl.2.1; omega) (by omega) hq (lie_to HX.out.2.1 h)
  have HV3 : Hid (∀ V A b c, Below W.heap.size W V → b.length ≤ 1000000 → Lie V V.heap.size A (bvs b) → Calls Try.prog 87 #[.slice A b.length c, .slice a.a2 x.ident.length a.c2] V (RetQ V (b ++ vecBytes x.ident))) := hid fun V A b c h hb hq => PutVecQ _ _ _ _ _ _ V (by have := hl.2.2.1; omega) (by omega) hq (lie_to HX.out.2.2.1 h)
  have HV4 : Hid (∀ V A b c, Below W.heap.size W V → b.length ≤ 1000000 → Lie V V.heap.size A (bvs b) → Calls Try.prog 87 #[.slice A b.length c, .slice a.a3 x.par.length a.c3] V (RetQ V (b ++ vecBytes x.par))) := hid fun V A b c h hb hq => PutVecQ _ _ _ _ _ _ V (by have := hl.2.2.2.1; omega) (by omega) hq (lie_to HX.out.2.2.2.1 h)
  have HN1 : Hid (∀ V A b c, b.length ≤ 1000000 → Lie V V.heap.size A (bvs b) → Calls Try.prog 86 #[.slice A b.length c, .int .i64 1, .int .u64 (x.src : Int)] V (RetQ V (b ++ beBytes 1 x.src))) := hid fun V A b c hb hq => PutNumQ A b c 1 x.src V (.inl rfl) (by have := hl.2.2.2.2.2; omega) (by omega) hq
  have v1 := vec_le (xs := x.box) (by have := hl.1; omega); have v2 := vec_le (xs := x.sign) (by have := hl.2.1; omega); have v3 := vec_le (xs := x.ident) (by have := hl.2.2.1; omega); have v4 := vec_le (xs := x.par) (by have := hl.2.2.2.1; omega)
  have hA := ahead_is x
  have hsl : (beBytes 1 x.src).length = 1 := beBytes_length _ _
  have hcv : IntKind.u64.wrap (x.src : Int) = (x.src : Int) := u64_nat _ (by have := hl.2.2.2.2.2; omega)
  obtain ⟨R, hR⟩ : ∃ t, t = aheadB x := ⟨_, rfl⟩
  obtain ⟨b1, h1⟩ : ∃ t, t = vecBytes x.box := ⟨_, rfl⟩
  obtain ⟨b2, h2⟩ : ∃ t, t = vecBytes x.sign := ⟨_, rfl⟩
  obtain ⟨b3, h3⟩ : ∃ t, t = vecBytes x.ident := ⟨_, rfl⟩
  obtain ⟨b4, h4⟩ : ∃ t, t = vecBytes x.par := ⟨_, rfl⟩
  obtain ⟨sb, hs⟩ : ∃ t, t = beBytes 1 x.src := ⟨_, rfl⟩
  rw [← hR, ← h1, ← h2, ← h3, ← h4, ← hs] at hA
  rw [← h1] at HV1 v1
  rw [← h2] at HV2 v2
  rw [← h3] at HV3 v3
  rw [← h4] at HV4 v4
  rw [← hs] at HN1 hsl
  rw [← hR]
  have HA := hid hA
  have HN : Hid (b1.length ≤ 100004 ∧ b2.length ≤ 100004 ∧ b3.length ≤ 100004 ∧ b4.length ≤ 100004 ∧ sb.length = 1) := hid ⟨v1, v2, v3, v4, hsl⟩
  have HC : Hid (∀ w', Below W.heap.size W w' → (w'.cell? ⟨w.heap.size, 0, none⟩ = some (.slice a.a0 x.box.length a.c0) ∧ w'.cell? ⟨w.heap.size, 1, none⟩ = some (.slice a.a1 x.sign.length a.c1) ∧ w'.cell? ⟨w.heap.size, 2, none⟩ = some (.slice a.a2 x.ident.length a.c2) ∧ w'.cell? ⟨w.heap.size, 3, none⟩ = some (.int .u8 (x.src : Int)) ∧ w'.cell? ⟨w.heap.size, 4, none⟩ = some (.slice a.a3 x.par.length a.c3))) := hid fun w' h => by
    have K3 := (h.block _ (block_lt K1.out)).trans K1.out
    exact ⟨cell_of K3 0 _ rfl, cell_of K3 1 _ rfl, cell_of K3 2 _ rfl, cell_of K3 3 _ rfl, cell_of K3 4 _ rfl⟩
  clear hx hl hW HX hR h1 h2 h3 h4 hs v1 v2 v3 v4 hsl hA
  have HB : Hid (Below W.heap.size W W) := hid (Below.refl _ _)
  go_enter Try.func88, Try.ntmps88
  go_upto_region 1 with fail
  rw [HE.out]
  refine wp_region_grA 9 (by kernel_rfl) (by decide) ?_
  refine wpGrA_take (i := 0) (.pointer (some ⟨w.heap.size, 0, none⟩)) rfl (by kernel_rfl) (by kernel_rfl) (fun _ _ _ h => h) (yG_val _ (by rfl) (fun w' hb => by (go_simp; try rfl))) ?_
  (try simp only [Act.put, List.getElem_toArray, List.getElem_cons_succ, List.getElem_cons_zero, List.setIfInBounds_toArray, List.set_cons_zero, List.set_cons_succ])
  refine wpGrA_take (i := 1) (.slice a.a0 x.box.length a.c0) rfl (by kernel_rfl) (by kernel_rfl) (fun _ _ _ h => h) (yG_val _ (by rfl) (fun w' hb => by have c := (HC.out w' hb).1; (go_simp; try rfl))) ?_
  (try simp only [Act.put, List.getElem_toArray, List.getElem_cons_succ, List.getElem_cons_zero, List.setIfInBounds_toArray, List.set_cons_zero, List.set_cons_succ])
  refine wpGrA_take (i := 3) (.pointer (some ⟨w.heap.size, 1, none⟩)) rfl (by kernel_rfl) (by kernel_rfl) (fun _ _ _ h => h) (yG_val _ (by rfl) (fun w' hb => by (go_simp; try rfl))) ?_
  (try simp only [Act.put, List.getElem_toArray, List.getElem_cons_succ, List.getElem_cons_zero, List.setIfInBounds_toArray, List.set_cons_zero, List.set_cons_succ])
  refine wpGrA_take (i := 4) (.slice a.a1 x.sign.length a.c1) rfl (by kernel_rfl) (by kernel_rfl) (fun _ _ _ h => h) (yG_val _ (by rfl) (fun w' hb => by have c := (HC.out w' hb).2.1; (go_simp; try rfl))) ?_
  (try simp only [Act.put, List.getElem_toArray, List.getElem_cons_succ, List.getElem_cons_zero, List.setIfInBounds_toArray, List.set_cons_zero, List.set_cons_succ])
  refine wpGrA_take (i := 6) (.pointer (some ⟨w.heap.size, 2, none⟩)) rfl (by kernel_rfl) (by kernel_rfl) (fun _ _ _ h => h) (yG_val _ (by rfl) (fun w' hb => by (go_simp; try rfl))) ?_
  (try simp only [Act.put, List.getElem_toArray, List.getElem_cons_succ, List.getElem_cons_zero, List.setIfInBounds_toArray, List.set_cons_zero, List.set_cons_succ])
  refine wpGrA_take (i := 7) (.slice a.a2 x.ident.length a.c2) rfl (by kernel_rfl) (by kernel_rfl) (fun _ _ _ h => h) (yG_val _ (by rfl) (fun w' hb => by have c := (HC.out w' hb).2.2.1; (go_simp; try rfl))) ?_
  (try simp only [Act.put, List.getElem_toArray, List.getElem_cons_succ, List.getElem_cons_zero, List.setIfInBounds_toArray, List.set_cons_zero, List.set_cons_succ])
  refine wpGrA_q (i := 2) (b1) rfl (by kernel_rfl) (by rfl) (fun w' => by go_simp) (fun w' hb => HV1.out w' (HB.out.trans (hb.mono HB.out.size))) ?_
  intro B1 d1 v1 hb hq
  have HBn := hid (HB.out.trans (hb.mono HB.out.size))
  clear HB 
  have HB := HBn
  clear HBn 
  have Q1 := hid hq
  clear hb hq
  (try simp only [Act.put, List.getElem_toArray, List.getElem_cons_succ, List.getElem_cons_zero, List.setIfInBounds_toArray, List.set_cons_zero, List.set_cons_succ])
  refine wpGrA_q (i := 5) (b1 ++ b2) rfl (by kernel_rfl) (by rfl) (fun w' => by go_simp) (fun w' hb => HV2.out w' B1 b1 d1 (HB.out.trans (hb.mono HB.out.size)) (by have := HN.out; (try simp only [List.length_append]); omega) (((Q1.out.below hb).more hb.size).lie)) ?_
  intro B2 d2 v2 hb hq
  have Q1n := hid ((Q1.out.below hb).more hb.size)
  have HBn := hid (HB.out.trans (hb.mono HB.out.size))
  clear HB Q1
  have HB := HBn
  have Q1 := Q1n
  clear HBn Q1n
  have Q2 := hid hq
  clear hb hq
  (try simp only [Act.put, List.getElem_toArray, List.getElem_cons_succ, List.getElem_cons_zero, List.setIfInBounds_toArray, List.set_cons_zero, List.set_cons_succ])
  refine wpGrA_q (i := 8) ((b1 ++ b2) ++ b3) rfl (by kernel_rfl) (by rfl) (fun w' => by go_simp) (fun w' hb => HV3.out w' B2 (b1 ++ b2) d2 (HB.out.trans (hb.mono HB.out.size)) (by have := HN.out; (try simp only [List.length_append]); omega) (((Q2.out.below hb).more hb.size).lie)) ?_
  intro B3 d3 v3 hb hq
  have Q1n := hid ((Q1.out.below hb).more hb.size)
  have Q2n := hid ((Q2.out.below hb).more hb.size)
  have HBn := hid (HB.out.trans (hb.mono HB.out.size))
  clear HB Q1 Q2
  have HB := HBn
  have Q1 := Q1n
  have Q2 := Q2n
  clear HBn Q1n Q2n
  have Q3 := hid hq
  clear hb hq
  (try simp only [Act.put, List.getElem_toArray, List.getElem_cons_succ, List.getElem_cons_zero, List.setIfInBounds_toArray, List.set_cons_zero, List.set_cons_succ])
  refine wpGrA_end (by kernel_rfl) ?_
  intro wz hb
  have Q1n := hid ((Q1.out.below hb).more hb.size)
  have Q2n := hid ((Q2.out.below hb).more hb.size)
  have Q3n := hid ((Q3.out.below hb).more hb.size)
  have HBn := hid (HB.out.trans (hb.mono HB.out.size))
  clear HB Q1 Q2 Q3
  have HB := HBn
  have Q1 := Q1n
  have Q2 := Q2n
  have Q3 := Q3n
  clear HBn Q1n Q2n Q3n
  clear hb
  simp only [List.drop_succ_cons, List.drop_zero]
  obtain ⟨m, hm⟩ : ∃ t, t = (b1 ++ b2) ++ b3 := ⟨_, rfl⟩
  rw [← hm] at Q3 HA ⊢
  have HML : Hid (m.length ≤ 400000) := hid (by rw [hm]; have := HN.out; simp only [List.length_append]; omega)
  have c3 := (HC.out wz HB.out).2.2.2.1
  clear hm Q1 Q2
  go_wp2_with fail
  clear hcv
  have t2 : m.length ≤ 1000000 := by have := HML.out; omega
  have t3 := HN1.out wz B3 m d3 t2 Q3.out.lie
  refine t3.mono ?_
  clear t2 t3
  rintro ee w5 ⟨B5, d5, rfl, hs5, hb⟩
  have Q5 := hid hs5
  have HB5 := hid (HB.out.trans (hb.mono HB.out.size))
  clear hs5 hb HB Q3 c3
  obtain ⟨m2, hm2⟩ : ∃ t, t = m ++ sb := ⟨_, rfl⟩
  rw [← hm2] at Q5 HA ⊢
  have HM2 : Hid (m2.length ≤ 500000) := hid (by rw [hm2]; have := HN.out; have := HML.out; simp only [List.length_append]; omega)
  clear hm2
  have c3 := (HC.out w5 HB5.out).2.2.2.1
  have c4 := (HC.out w5 HB5.out).2.2.2.2
  by_cases h3 : x.src = 3
  · have h3i : (x.src : Int) = 3 := by omega
    have ha := HA.out
    rw [if_pos h3] at ha
    have HA2 := hid ha
    clear ha HA
    go_wp2_with fail
    refine (HV4.out w5 B5 m2 d5 HB5.out (by have := HM2.out; omega) Q5.out.lie).mono ?_
    rintro ee w6 ⟨B6, d6, rfl, hs6, hb⟩
    have HB6 := hid (HB5.out.trans (hb.mono HB5.out.size))
    have Q6 := hid hs6
    clear hs6 hb HB5 Q5 c3 c4
    rw [← HA2.out] at Q6 ⊢
    go_wp2
    go_ret
    exact ⟨B6, d6, rfl, Q6.out, HW0.out.trans (HB6.out.mono HW0.out.size)⟩
  · have h3i : ((x.src : Int) == 3) = false := by rw [beq_eq_false_iff_ne]; omega
    have ha := HA.out
    rw [if_neg h3, List.append_nil] at ha
    have HA2 := hid ha
    clear ha HA
    go_wp2
    go_ret
    exact ⟨B5, d5, by rw [HA2.out]; rfl, by rw [HA2.out]; exact Q5.out, HW0.out.trans (HB5.out.mono HW0.out.size)⟩
end Go.Proofs.Ythooibljnfnnhaa
end
section
namespace Go.Proofs.Ythooibljnfnnhaa
open Go Go.RowKit
set_option linter.unusedVariables false
set_option linter.unusedSimpArgs false
theorem lfOwn_on {W w w' : World} {x : Lf} {a : LA} (h : LfOwn W w x a) (hb : Below w.heap.size w w') : LfOwn W w' x a := ⟨own_on h.1 hb, own_on h.2.1 hb, own_on h.2.2.1 hb, own_on h.2.2.2.1 hb, own_on h.2.2.2.2 hb⟩
theorem lfOwn_le {W W' w : World} {x : Lf} {a : LA} (h : LfOwn W' w x a) (hB : W.heap.size ≤ W'.heap.size) : LfOwn W w x a := ⟨own_le h.1 hB, own_le h.2.1 hB, own_le h.2.2.1 hB, own_le h.2.2.2.1 hB, own_le h.2.2.2.2 hB⟩
theorem lfOwn_put {W w : World} {g : Nat} {cs : Array Value} {x : Lf} {a : LA} (h : LfOwn W w x a) (hg : g < W.heap.size) : LfOwn W (w.setRow g cs) x a := ⟨own_put h.1 hg, own_put h.2.1 hg, own_put h.2.2.1 hg, own_put h.2.2.2.1 hg, own_put h.2.2.2.2 hg⟩
theorem prOwn_on {W w w' : World} {x : Pnt} {a : PA} (h : PrOwn W w x a) (hb : Below w.heap.size w w') : PrOwn W w' x a := ⟨own_on h.1 hb, own_on h.2.1 hb, own_on h.2.2 hb⟩
theorem prOwn_le {W W' w : World} {x : Pnt} {a : PA} (h : PrOwn W' w x a) (hB : W.heap.size ≤ W'.heap.size) : PrOwn W w x a := ⟨own_le h.1 hB, own_le h.2.1 hB, own_le h.2.2 hB⟩
theorem prOwn_put {W w : World} {g : Nat} {cs : Array Value} {x : Pnt} {a : PA} (h : PrOwn W w x a) (hg : g < W.heap.size) : PrOwn W (w.setRow g cs) x a := ⟨own_put h.1 hg, own_put h.2.1 hg, own_put h.2.2 hg⟩
set_option maxHeartbeats 2000000 in
theorem node_copy : NdCopy := fun k x a u p w hok => by
  have hx := hok.1; have hu := hok.2.1
  have hl : x.box.length ≤ 1000000 ∧ x.sign.length ≤ 1000000 ∧ x.ident.length ≤ 1000000 ∧ x.par.length ≤ 1000000 ∧ x.sig.length ≤ 1000000 := ⟨hok.2.2.1.1, hok.2.2.1.2.1, hok.2.2.1.2.2.1, hok.2.2.1.2.2.2.1, hok.2.2.1.2.2.2.2.1⟩
  have hm := hok.2.2.2.1
  have K1 : Hid (((w.alloc (.cells (ndV k x a u p) NdT)).alloc (.cells ndZ NdT)).heap[w.heap.size]? = some (.cells (ndV k x a u p) NdT (0, 0))) := hid ((Below.heap_alloc _ _ w.heap.size (by simp)).trans (heap_alloc_new w (.cells (ndV k x a u p) NdT)))
  have K2 : Hid (((w.alloc (.cells (ndV k x a u p) NdT)).alloc (.cells ndZ NdT)).heap[w.heap.size + 1]? = some (.cells ndZ NdT (0, 0))) := hid (by have h := heap_alloc_new (w.alloc (.cells (ndV k x a u p) NdT)) (.cells ndZ NdT); simpa using h)
  have HW0 : Hid (Below w.heap.size w ((w.alloc (.cells (ndV k x a u p) NdT)).alloc (.cells ndZ NdT))) := hid (((Below.refl _ _).alloc (Nat.le_refl _) _).alloc (by simp) _)
  have HSZ : Hid (((w.alloc (.cells (ndV k x a u p) NdT)).alloc (.cells ndZ NdT)).heap.size = w.heap.size + 2) := hid (by simp)
  have HX := hid (hx.on HW0.out); have HU := hid (hu.on HW0.out)
  obtain ⟨W, hW⟩ : ∃ W, W = ((w.alloc (.cells (ndV k x a u p) NdT)).alloc (.cells ndZ NdT)) := ⟨_, rfl⟩
  have e : (w.alloc (.cells #[.int .u8 (k : Int), .slice a.a0 x.box.length a.c0, .slice a.a1 x.sign.length a.c1, .slice a.a2 x.ident.length a.c2, .int .u8 (x.src : Int), .slice a.a3 x.par.length a.c3, .slice a.a4 x.sig.length a.c4, .slice p.a0 u.box.length p.c0, .slice p.a1 u.hash.length p.c1, .slice p.a2 u.late.length p.c2] NdT)).alloc (.cells ndZ NdT) = W := hW.symm
  have HE := hid e
  rw [← hW] at K1 K2 HW0 HSZ HX HU
  have HP0 : Hid (∀ V, Below W.heap.size W V → Calls Try.prog 62 #[.agg (lfV x a)] V fun e w' => ∃ v, e = .returned v ∧ Below V.heap.size V w' ∧ ∃ b, v = .agg (lfV x b) ∧ LfOwn V w' x b) := hid fun V h => (copyLeaf_e x a V (HX.out.on h) hl).mono fun e w' ⟨b, he, h1, h2⟩ => ⟨_, he, h2, b, rfl, h1⟩
  have HP1 : Hid (∀ V, Below W.heap.size W V → Calls Try.prog 63 #[.agg (prV u p)] V fun e w' => ∃ v, e = .returned v ∧ Below V.heap.size V w' ∧ ∃ b, v = .agg (prV u b) ∧ PrOwn V w' u b) := hid fun V h => (copyParent_e u p V (HU.out.on h) hm).mono fun e w' ⟨b, he, h1, h2⟩ => ⟨_, he, h2, b, rfl, h1⟩
  have c0 : Hid (∀ w', Below W.heap.size W w' → w'.cell? ⟨w.heap.size, 0, none⟩ = some (.int .u8 (k : Int))) := hid fun w' h => cell_of ((h.block _ (block_lt K1.out)).trans K1.out) 0 _ rfl
  clear hx hl hW HX e hu hm HU hok
  go_enter Try.func37, Try.ntmps37
  go_upto_region 1 with fail
  rw [HE.out]
  have HB : Hid (Below W.heap.size W W) := hid (Below.refl _ _)
  refine wp_region_grA 8 (by kernel_rfl) (by decide) ?_
  refine wpGrA_take (i := 0) (.pointer (some ⟨w.heap.size, 0, none⟩)) rfl (by kernel_rfl) (by kernel_rfl) (fun _ _ _ h => h) (yG_val _ (by rfl) (fun w' _ => by (go_simp; try rfl))) ?_
  (try simp only [Act.put, List.getElem_toArray, List.getElem_cons_succ, List.getElem_cons_zero, List.setIfInBounds_toArray, List.set_cons_zero, List.set_cons_succ])
  refine wpGrA_take (i := 1) (.int .u8 (k : Int)) rfl (by kernel_rfl) (by kernel_rfl) (fun _ _ _ h => h) (yG_val _ (by rfl) (fun w' hb => by have c := c0.out w' hb; (go_simp; try rfl))) ?_
  (try simp only [Act.put, List.getElem_toArray, List.getElem_cons_succ, List.getElem_cons_zero, List.setIfInBounds_toArray, List.set_cons_zero, List.set_cons_succ])
  refine wpGrA_take (i := 2) (.pointer (some ⟨w.heap.size, 1, none⟩)) rfl (by kernel_rfl) (by kernel_rfl) (fun _ _ _ h => h) (yG_val _ (by rfl) (fun w' _ => by (go_simp; try rfl))) ?_
  (try simp only [Act.put, List.getElem_toArray, List.getElem_cons_succ, List.getElem_cons_zero, List.setIfInBounds_toArray, List.set_cons_zero, List.set_cons_succ])
  refine wpGrA_take (i := 3) (.agg (lfV x a)) rfl (by kernel_rfl) (by kernel_rfl) (fun _ _ _ h => h) (yG_part (by rfl) LfT (.tmp 5) rfl w.heap.size 1 rfl NdT (ndV k x a u p) (lfV x a) (0, 0) _ K1.out rfl Try.underlying27 rfl infoLf) ?_
  (try simp only [Act.put, List.getElem_toArray, List.getElem_cons_succ, List.getElem_cons_zero, List.setIfInBounds_toArray, List.set_cons_zero, List.set_cons_succ])
  refine wpGrA_take (i := 5) (.pointer (some ⟨w.heap.size, 7, none⟩)) rfl (by kernel_rfl) (by kernel_rfl) (fun _ _ _ h => h) (yG_val _ (by rfl) (fun w' _ => by (go_simp; try rfl))) ?_
  (try simp only [Act.put, List.getElem_toArray, List.getElem_cons_succ, List.getElem_cons_zero, List.setIfInBounds_toArray, List.set_cons_zero, List.set_cons_succ])
  refine wpGrA_take (i := 6) (.agg (prV u p)) rfl (by kernel_rfl) (by kernel_rfl) (fun _ _ _ h => h) (yG_part (by rfl) PrT (.tmp 8) rfl w.heap.size 7 rfl NdT (ndV k x a u p) (prV u p) (0, 0) _ K1.out rfl Try.underlying36 rfl infoPr) ?_
  (try simp only [Act.put, List.getElem_toArray, List.getElem_cons_succ, List.getElem_cons_zero, List.setIfInBounds_toArray, List.set_cons_zero, List.set_cons_succ])
  refine wpGrA_call (fun w' v w'' => ∃ b, v = .agg (lfV x b) ∧ LfOwn w' w'' x b) (i := 4) rfl (by kernel_rfl) (by rfl) (fun w' => by go_simp) (fun w' hb => HP0.out w' (HB.out.trans (hb.mono HB.out.size))) ?_
  rintro v0 _ v1 hb hb2 ⟨b, rfl, ho⟩
  have O0 := hid (lfOwn_le ho (Nat.le_trans HB.out.size hb.size))
  have HB1 := hid (HB.out.trans ((hb.trans (hb2.mono hb.size)).mono HB.out.size))
  clear hb hb2 ho HB HP0 v0
  (try simp only [Act.put, List.getElem_toArray, List.getElem_cons_succ, List.getElem_cons_zero, List.setIfInBounds_toArray, List.set_cons_zero, List.set_cons_succ])
  refine wpGrA_call (fun w' v w'' => ∃ b, v = .agg (prV u b) ∧ PrOwn w' w'' u b) (i := 7) rfl (by kernel_rfl) (by rfl) (fun w' => by go_simp) (fun w' hb => HP1.out w' (HB1.out.trans (hb.mono HB1.out.size))) ?_
  rintro v0 _ v2 hb hb2 ⟨q, rfl, ho⟩
  have O1 := hid (prOwn_le ho (Nat.le_trans HB1.out.size hb.size))
  have O0n := hid (lfOwn_on O0.out (hb.trans (hb2.mono hb.size)))
  have HB2 := hid (HB1.out.trans ((hb.trans (hb2.mono hb.size)).mono HB1.out.size))
  clear hb hb2 ho HB1 HP1 v0 O0
  (try simp only [Act.put, List.getElem_toArray, List.getElem_cons_succ, List.getElem_cons_zero, List.setIfInBounds_toArray, List.set_cons_zero, List.set_cons_succ])
  refine wpGrA_end (by kernel_rfl) ?_
  intro wz hb
  have P0 := hid (lfOwn_on O0n.out hb); have P1 := hid (prOwn_on O1.out hb)
  have HBn := hid (HB2.out.trans (hb.mono HB2.out.size))
  clear hb HB2 O0n O1
  have K3 := hid ((HBn.out.block _ (block_lt K2.out)).trans K2.out)
  have hbuild : ∀ V : World, (Instr.build NdT #[(0, .int .u8 (k : Int)), (1, .agg (lfV x b)), (2, .agg (prV u q))]).run Try.prog V = .ok (.agg (ndV k x b u q)) V := fun V => run_build V NdT _ _ (by kernel_rfl)
  simp only [List.drop_succ_cons, List.drop_zero]
  go_wp2_with (with_reducible refine wpList_store_row rfl NdT (.tmp 2) _ rfl (w.heap.size + 1) (ndV k x b u q) rfl rfl NdT ndZ K3.out infoNd16 ndZ_size ndV_one ?_)
  have KZ := setRow_heap _ (w.heap.size + 1) ndZ (ndV k x b u q) NdT (0, 0) K3.out
  have hsz := HSZ.out
  have Q0 := lfOwn_le (W := w) (lfOwn_put (cs := ndV k x b u q) P0.out (show w.heap.size + 1 < W.heap.size by omega)) (by omega)
  have Q1 := prOwn_le (W := w) (prOwn_put (cs := ndV k x b u q) P1.out (show w.heap.size + 1 < W.heap.size by omega)) (by omega)
  exact bodyPost_ret (v := .agg (ndV k x b u q)) (results_cell_row rfl _ _ (w.heap.size + 1) NdT (ndV k x b u q) (0, 0) _ rfl KZ Try.underlying38 rfl infoNd16) rfl ⟨b, q, rfl, Q0, Q1.1, Q1.2.1, Q1.2.2, (HW0.out.trans (HBn.out.mono HW0.out.size)).trans (below_put _ _ _ (by omega))⟩
end Go.Proofs.Ythooibljnfnnhaa
end
