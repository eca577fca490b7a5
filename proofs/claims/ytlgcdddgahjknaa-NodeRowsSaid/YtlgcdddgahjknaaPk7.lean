/-
  Texts of this claim in one file: Ref16a, Ref16b, Ref16c, Ref16d, Ref16e, Ref16h, Ref16i, Ref16j, Ref16k.
-/
import Derived.Test.YtlgcdddgahjknaaPk3
import Derived.Test.YtlgcdddgahjknaaPk4
import Derived.Test.YtlgcdddgahjknaaPk5
import Derived.Test.YtlgcdddgahjknaaPk6
import Derived.Test.YtlgcdddgahjknaaPk24
import Derived.Great.Walk
import Derived.Deep.MidRow
import Derived.Test.YtlgcdddgahjknaaPk10
import Derived.Test.YtlgcdddgahjknaaPk11
import Derived.Test.YtlgcdddgahjknaaPk2
import Derived.Test.YtlgcdddgahjknaaPk12
import Derived.Test.YtlgcdddgahjknaaPk9
section
namespace Go.Proofs.Ytlgcdddgahjknaa
open Go Go.RowKit
set_option linter.unusedVariables false
set_option linter.unusedSimpArgs false
set_option maxHeartbeats 800000 in
theorem Same14Z_any (A : Option Addr) (xs : List Int) (c : Nat) (A' : Option Addr) (ys : List Int) (c' : Nat) (w : World) (B B' : Nat) (hA : Lie w B A (izs xs)) (hA' : Lie w B' A' (izs ys)) (hm : xs.length ≤ 140737488355328) :
    Calls Try.prog 41 #[.slice A xs.length c, .slice A' ys.length c'] w fun e w' => e = .returned (.bool (xs == ys)) ∧ ∃ n, w' = w.drewN n := by
  by_cases hl : xs.length = ys.length
  · have hl2 : ((xs.length : Int) != (ys.length : Int)) = false := by simp [hl]
    have HL := hid hl
    clear hl
    go_enter Try.func41, Try.ntmps41
    go_wp2
    go_loopg [5] xs.length (fun g i wr => ∃ k n : Nat, k + g = xs.length ∧ i = .int .i64 (k : Int) ∧ xs.take k = ys.take k ∧ wr = w.drewN n)
    case atStart => exact ⟨0, 0, by omega, rfl, rfl, rfl⟩
    case round =>
      obtain ⟨k, n, hk, rfl, ht, rfl⟩ := hrel
      have HT := hid ht
      have HK := hid hk
      clear ht hk
      by_cases hlt : k < xs.length
      · have hlt2 : k < ys.length := by rw [← HL.out]; exact hlt
        obtain ⟨b, o, rfl, hb, hc⟩ := hA.numZ hlt
        obtain ⟨b', o', rfl, hb', hc'⟩ := hA'.numZ hlt2
        have hx : (k : Int) < (xs.length : Int) := by omega
        have hy : (k : Int) < (ys.length : Int) := by omega
        have h0 : (0 : Int) ≤ (k : Int) := by omega
        have hstep := hid (take_eq_step xs ys k hlt hlt2 HT.out)
        by_cases he : xs[k] = ys[k]
        · have he2 : (xs[k] != ys[k]) = false := by simp [he]
          have HE := hid he
          clear he
          go_wp2
          go_quiet (fail)
          go_wp2
          have hk := HK.out
          go_roundg (gk - 1)
          case measure => omega
          case rel => exact ⟨k + 1, _, by omega, by go_num, hstep.out.2 HE.out, rfl⟩
        · have he2 : (xs[k] != ys[k]) = true := by rw [bne_iff_ne]; omega
          have HE := hid he
          have HF : Hid ((xs == ys) = false) := hid (by
            rw [beq_eq_false_iff_ne]
            intro e
            subst e
            exact he rfl)
          clear he
          go_wp2
          go_quiet (fail)
          go_wp2
          go_ret
          exact ⟨by rw [HF.out]; rfl, _, World.drewN_drewN _ _ _⟩
      · have hk := HK.out
        obtain rfl : k = xs.length := by omega
        have HF : Hid ((xs == ys) = true) := hid (by
          have h := HT.out
          rw [List.take_length, HL.out, List.take_length] at h
          rw [beq_iff_eq]; exact h)
        clear hk
        go_wp2
        go_ret
        exact ⟨by rw [HF.out]; rfl, _, rfl⟩
  · have hl2 : ((xs.length : Int) != (ys.length : Int)) = true := by rw [bne_iff_ne]; omega
    have HF : Hid ((xs == ys) = false) := hid (by
      rw [beq_eq_false_iff_ne]
      intro e
      subst e
      exact hl rfl)
    clear hl
    go_enter Try.func41, Try.ntmps41
    go_wp2
    go_ret
    exact ⟨by rw [HF.out]; rfl, 0, rfl⟩
/-- A leaf's, a node's contents; where their bytes lie. -/
structure Lf where
  box : List UInt8
  sign : List UInt8
  ident : List UInt8
  src : Nat
  par : List UInt8
  sig : List UInt8
structure LA where
  a0 : Option Addr
  a1 : Option Addr
  a2 : Option Addr
  a3 : Option Addr
  a4 : Option Addr
  c0 : Nat
  c1 : Nat
  c2 : Nat
  c3 : Nat
  c4 : Nat
structure Pnt where
  box : List UInt8
  hash : List UInt8
  late : List Int
structure PA where
  a0 : Option Addr
  a1 : Option Addr
  a2 : Option Addr
  c0 : Nat
  c1 : Nat
  c2 : Nat
abbrev LfT : TypeId := 24
abbrev PrT : TypeId := 27
abbrev NdT : TypeId := 29
abbrev lfV (x : Lf) (a : LA) : Array Value := #[.slice a.a0 x.box.length a.c0, .slice a.a1 x.sign.length a.c1, .slice a.a2 x.ident.length a.c2, .int .u8 (x.src : Int), .slice a.a3 x.par.length a.c3, .slice a.a4 x.sig.length a.c4]
abbrev prV (x : Pnt) (a : PA) : Array Value := #[.slice a.a0 x.box.length a.c0, .slice a.a1 x.hash.length a.c1, .slice a.a2 x.late.length a.c2]
abbrev ndV (k : Nat) (x : Lf) (a : LA) (y : Pnt) (b : PA) : Array Value := #[.int .u8 (k : Int), .slice a.a0 x.box.length a.c0, .slice a.a1 x.sign.length a.c1, .slice a.a2 x.ident.length a.c2, .int .u8 (x.src : Int), .slice a.a3 x.par.length a.c3, .slice a.a4 x.sig.length a.c4, .slice b.a0 y.box.length b.c0, .slice b.a1 y.hash.length b.c1, .slice b.a2 y.late.length b.c2]
/-- It lies in memory. -/
def LfIn (w : World) (x : Lf) (a : LA) : Prop := Lie w w.heap.size a.a0 (bvs x.box) ∧ Lie w w.heap.size a.a1 (bvs x.sign) ∧ Lie w w.heap.size a.a2 (bvs x.ident) ∧ Lie w w.heap.size a.a3 (bvs x.par) ∧ Lie w w.heap.size a.a4 (bvs x.sig)
def PrIn (w : World) (y : Pnt) (b : PA) : Prop := Lie w w.heap.size b.a0 (bvs y.box) ∧ Lie w w.heap.size b.a1 (bvs y.hash) ∧ Lie w w.heap.size b.a2 (izs y.late)
theorem lie_on {w w' : World} {A : Option Addr} {xs : List Value} (h : Lie w w.heap.size A xs) (hb : Below w.heap.size w w') : Lie w' w'.heap.size A xs := (h.below hb).more hb.size
theorem LfIn.on {w w' : World} {x : Lf} {a : LA} (h : LfIn w x a) (hb : Below w.heap.size w w') : LfIn w' x a := ⟨lie_on h.1 hb, lie_on h.2.1 hb, lie_on h.2.2.1 hb, lie_on h.2.2.2.1 hb, lie_on h.2.2.2.2 hb⟩
theorem PrIn.on {w w' : World} {x : Pnt} {a : PA} (h : PrIn w x a) (hb : Below w.heap.size w w') : PrIn w' x a := ⟨lie_on h.1 hb, lie_on h.2.1 hb, lie_on h.2.2 hb⟩
/-- No more than is looked at. -/
def LfLe (x : Lf) : Prop := x.box.length ≤ 140737488355328 ∧ x.sign.length ≤ 140737488355328 ∧ x.ident.length ≤ 140737488355328 ∧ x.par.length ≤ 140737488355328 ∧ x.sig.length ≤ 140737488355328 ∧ x.src < 256
def PrLe (y : Pnt) : Prop := y.box.length ≤ 140737488355328 ∧ y.hash.length ≤ 140737488355328 ∧ y.late.length ≤ 140737488355328
theorem infoLf {x : Lf} {a : LA} : (Try.prog.info? LfT).map (·.size) = some (lfV x a).size := by kernel_rfl
theorem infoPr {y : Pnt} {b : PA} : (Try.prog.info? PrT).map (·.size) = some (prV y b).size := by kernel_rfl
theorem infoNd16 {k : Nat} {x : Lf} {a : LA} {y : Pnt} {b : PA} : (Try.prog.info? NdT).map (·.size) = some (ndV k x a y b).size := by kernel_rfl
def leafN (b s i r p g : Nat) : Bool := decide (b = 32) && decide (s = 32) && decide (0 < i) && decide (i ≤ 64) && decide (0 < r) && decide (r < 4) && (decide (p = 0) || (decide (r = 3) && decide (p = 32))) && decide (g = 64)
def leafB (x : Lf) : Bool := leafN x.box.length x.sign.length x.ident.length x.src x.par.length x.sig.length
set_option maxHeartbeats 2000000 in
theorem RightLeaf16_gen (A0 A1 A2 A3 A4 : Option Addr) (b s i r p g k0 k1 k2 k3 k4 : Nat) (w : World) (hr : r < 256) :
    Calls Try.prog 12 #[.agg #[.slice A0 b k0, .slice A1 s k1, .slice A2 i k2, .int .u8 (r : Int), .slice A3 p k3, .slice A4 g k4]] w (RetB w (leafN b s i r p g)) := by
  have H1 := hid (heap_alloc_new w (.cells #[.slice A0 b k0, .slice A1 s k1, .slice A2 i k2, .int .u8 (r : Int), .slice A3 p k3, .slice A4 g k4] LfT))
  have c0 := cell_of H1.out 0 _ rfl; have c1 := cell_of H1.out 1 _ rfl; have c2 := cell_of H1.out 2 _ rfl; have c3 := cell_of H1.out 3 _ rfl; have c4 := cell_of H1.out 4 _ rfl; have c5 := cell_of H1.out 5 _ rfl
  go_enter Try.func12, Try.ntmps12
  go_wp2
  all_goals (go_ret; refine ⟨congrArg (fun b => Ending.returned (.bool b)) ?_, (Below.refl _ _).alloc (Nat.le_refl _) _⟩; clear c0 c1 c2 c3 c4 c5 H1; show (_ : Bool) = _; rw [Bool.eq_iff_iff]; simp [leafN]; try omega)
theorem RightLeaf16_any (x : Lf) (a : LA) (w : World) (hr : x.src < 256) : Calls Try.prog 12 #[.agg (lfV x a)] w (RetB w (leafB x)) := RightLeaf16_gen _ _ _ _ _ _ _ _ _ _ _ _ _ _ _ _ w hr
def sameLf (x y : Lf) : Bool := x.box == y.box && x.sign == y.sign && x.ident == y.ident && x.src == y.src && x.par == y.par && x.sig == y.sig
theorem SameB (A : Option Addr) (xs : List UInt8) (c : Nat) (A2 : Option Addr) (ys : List UInt8) (c2 : Nat) (W : World) (h1 : Lie W W.heap.size A (bvs xs)) (h2 : Lie W W.heap.size A2 (bvs ys)) (h3 : xs.length ≤ 140737488355328) :
    Calls Try.prog 13 #[.slice A xs.length c, .slice A2 ys.length c2] W (RetB W (xs == ys)) := (Same_any A xs c A2 ys c2 W _ _ h1 h2 h3).mono fun e w2 ⟨he, m, hm⟩ => ⟨he, by rw [hm]; exact belowB_drewN (Below.refl _ _) m⟩
theorem SameZ (A : Option Addr) (xs : List Int) (c : Nat) (A2 : Option Addr) (ys : List Int) (c2 : Nat) (W : World) (h1 : Lie W W.heap.size A (izs xs)) (h2 : Lie W W.heap.size A2 (izs ys)) (h3 : xs.length ≤ 140737488355328) :
    Calls Try.prog 41 #[.slice A xs.length c, .slice A2 ys.length c2] W (RetB W (xs == ys)) := (Same14Z_any A xs c A2 ys c2 W _ _ h1 h2 h3).mono fun e w2 ⟨he, m, hm⟩ => ⟨he, by rw [hm]; exact belowB_drewN (Below.refl _ _) m⟩
set_option maxHeartbeats 2000000 in
theorem SameLeaf16_any (x y : Lf) (a b : LA) (w : World) (hx : LfIn w x a) (hy : LfIn w y b) (hl : LfLe x) : Calls Try.prog 23 #[.agg (lfV x a), .agg (lfV y b)] w (RetB w (sameLf x y)) := by
  have K1 : Hid (((w.alloc (.cells (lfV x a) LfT)).alloc (.cells (lfV y b) LfT)).heap[w.heap.size]? = some (.cells (lfV x a) LfT (0, 0))) := hid ((Below.heap_alloc _ _ w.heap.size (by simp)).trans (heap_alloc_new w (.cells (lfV x a) LfT)))
  have K2 : Hid (((w.alloc (.cells (lfV x a) LfT)).alloc (.cells (lfV y b) LfT)).heap[w.heap.size + 1]? = some (.cells (lfV y b) LfT (0, 0))) := hid (by have h := heap_alloc_new (w.alloc (.cells (lfV x a) LfT)) (.cells (lfV y b) LfT); simpa using h)
  have HB : Hid (Below w.heap.size w ((w.alloc (.cells (lfV x a) LfT)).alloc (.cells (lfV y b) LfT))) := hid (((Below.refl _ _).alloc (Nat.le_refl _) _).alloc (by simp) _)
  have HX := hid (hx.on HB.out); have HY := hid (hy.on HB.out)
  have HC1 : Hid (∀ W : World, LfIn W x a → LfIn W y b → Calls Try.prog 13 #[.slice a.a0 x.box.length a.c0, .slice b.a0 y.box.length b.c0] W (RetB W (x.box == y.box))) := hid fun W h1 h2 => SameB _ _ _ _ _ _ W h1.1 h2.1 hl.1
  have HC2 : Hid (∀ W : World, LfIn W x a → LfIn W y b → Calls Try.prog 13 #[.slice a.a1 x.sign.length a.c1, .slice b.a1 y.sign.length b.c1] W (RetB W (x.sign == y.sign))) := hid fun W h1 h2 => SameB _ _ _ _ _ _ W h1.2.1 h2.2.1 hl.2.1
  have HC3 : Hid (∀ W : World, LfIn W x a → LfIn W y b → Calls Try.prog 13 #[.slice a.a2 x.ident.length a.c2, .slice b.a2 y.ident.length b.c2] W (RetB W (x.ident == y.ident))) := hid fun W h1 h2 => SameB _ _ _ _ _ _ W h1.2.2.1 h2.2.2.1 hl.2.2.1
  have HC4 : Hid (∀ W : World, LfIn W x a → LfIn W y b → Calls Try.prog 13 #[.slice a.a3 x.par.length a.c3, .slice b.a3 y.par.length b.c3] W (RetB W (x.par == y.par))) := hid fun W h1 h2 => SameB _ _ _ _ _ _ W h1.2.2.2.1 h2.2.2.2.1 hl.2.2.2.1
  have HC5 : Hid (∀ W : World, LfIn W x a → LfIn W y b → Calls Try.prog 13 #[.slice a.a4 x.sig.length a.c4, .slice b.a4 y.sig.length b.c4] W (RetB W (x.sig == y.sig))) := hid fun W h1 h2 => SameB _ _ _ _ _ _ W h1.2.2.2.2 h2.2.2.2.2 hl.2.2.2.2.1
  have HS : Hid (sameLf x y = (x.box == y.box && x.sign == y.sign && x.ident == y.ident && x.src == y.src && x.par == y.par && x.sig == y.sig)) := hid rfl
  obtain ⟨r, hrr⟩ : ∃ t, t = sameLf x y := ⟨_, rfl⟩
  rw [← hrr] at HS ⊢
  obtain ⟨q1, hq1⟩ : ∃ t, t = (x.box == y.box) := ⟨_, rfl⟩
  rw [← hq1] at HC1 HS
  obtain ⟨q2, hq2⟩ : ∃ t, t = (x.sign == y.sign) := ⟨_, rfl⟩
  rw [← hq2] at HC2 HS
  obtain ⟨q3, hq3⟩ : ∃ t, t = (x.ident == y.ident) := ⟨_, rfl⟩
  rw [← hq3] at HC3 HS
  obtain ⟨q4, hq4⟩ : ∃ t, t = (x.par == y.par) := ⟨_, rfl⟩
  rw [← hq4] at HC4 HS
  obtain ⟨q5, hq5⟩ : ∃ t, t = (x.sig == y.sig) := ⟨_, rfl⟩
  rw [← hq5] at HC5 HS
  have hsi : ((x.src : Int) == (y.src : Int)) = (x.src == y.src) := by rw [Bool.eq_iff_iff, beq_iff_eq, beq_iff_eq]; omega
  obtain ⟨q6, hq6⟩ : ∃ t, t = (x.src == y.src) := ⟨_, rfl⟩
  rw [← hq6] at hsi HS
  clear hrr hx hy hl hq1 hq2 hq3 hq4 hq5 hq6
  go_enter Try.func23, Try.ntmps23
  have c1 := cell_of K1.out 0 _ rfl; have c2 := cell_of K2.out 0 _ rfl
  go_wp2_with fail
  refine (HC1.out _ HX.out HY.out).mono ?_
  rintro e w1 ⟨rfl, hb⟩
  have HX2 := hid (HX.out.on hb); have HY2 := hid (HY.out.on hb); have HB2 := hid (HB.out.trans (hb.mono HB.out.size))
  have K12 := hid ((hb.block _ (block_lt K1.out)).trans K1.out); have K22 := hid ((hb.block _ (block_lt K2.out)).trans K2.out)
  clear hb HX HY HB K1 K2 c1 c2 HC1
  have HX := HX2; have HY := HY2; have HB := HB2; have K1 := K12; have K2 := K22
  clear HX2 HY2 HB2 K12 K22
  cases q1 with
  | false =>
    go_wp2
    go_ret
    exact ⟨by rw [HS.out]; rfl, HB.out⟩
  | true =>
    have c1 := cell_of K1.out 1 _ rfl; have c2 := cell_of K2.out 1 _ rfl
    go_wp2_with fail
    refine (HC2.out _ HX.out HY.out).mono ?_
    rintro e w2 ⟨rfl, hb⟩
    have HX2 := hid (HX.out.on hb); have HY2 := hid (HY.out.on hb); have HB2 := hid (HB.out.trans (hb.mono HB.out.size))
    have K12 := hid ((hb.block _ (block_lt K1.out)).trans K1.out); have K22 := hid ((hb.block _ (block_lt K2.out)).trans K2.out)
    clear hb HX HY HB K1 K2 c1 c2 HC2
    have HX := HX2; have HY := HY2; have HB := HB2; have K1 := K12; have K2 := K22
    clear HX2 HY2 HB2 K12 K22
    cases q2 with
    | false =>
      go_wp2
      go_ret
      exact ⟨by rw [HS.out]; rfl, HB.out⟩
    | true =>
      have c1 := cell_of K1.out 2 _ rfl; have c2 := cell_of K2.out 2 _ rfl
      go_wp2_with fail
      refine (HC3.out _ HX.out HY.out).mono ?_
      rintro e w3 ⟨rfl, hb⟩
      have HX2 := hid (HX.out.on hb); have HY2 := hid (HY.out.on hb); have HB2 := hid (HB.out.trans (hb.mono HB.out.size))
      have K12 := hid ((hb.block _ (block_lt K1.out)).trans K1.out); have K22 := hid ((hb.block _ (block_lt K2.out)).trans K2.out)
      clear hb HX HY HB K1 K2 c1 c2 HC3
      have HX := HX2; have HY := HY2; have HB := HB2; have K1 := K12; have K2 := K22
      clear HX2 HY2 HB2 K12 K22
      cases q3 with
      | false =>
        have c3 := cell_of K1.out 3 _ rfl; have c4 := cell_of K2.out 3 _ rfl
        go_wp2
        go_ret
        exact ⟨by rw [HS.out]; rfl, HB.out⟩
      | true =>
        cases q6 with
        | false =>
          have c3 := cell_of K1.out 3 _ rfl; have c4 := cell_of K2.out 3 _ rfl
          go_wp2
          go_ret
          exact ⟨by rw [HS.out]; rfl, HB.out⟩
        | true =>
          have c1 := cell_of K1.out 4 _ rfl; have c2 := cell_of K2.out 4 _ rfl; have c3 := cell_of K1.out 3 _ rfl; have c4 := cell_of K2.out 3 _ rfl
          go_wp2_with fail
          refine (HC4.out _ HX.out HY.out).mono ?_
          rintro e w4 ⟨rfl, hb⟩
          have HX2 := hid (HX.out.on hb); have HY2 := hid (HY.out.on hb); have HB2 := hid (HB.out.trans (hb.mono HB.out.size))
          have K12 := hid ((hb.block _ (block_lt K1.out)).trans K1.out); have K22 := hid ((hb.block _ (block_lt K2.out)).trans K2.out)
          clear hb HX HY HB K1 K2 c1 c2 HC4 c3 c4
          have HX := HX2; have HY := HY2; have HB := HB2; have K1 := K12; have K2 := K22
          clear HX2 HY2 HB2 K12 K22
          cases q4 with
          | false =>
            go_wp2
            go_ret
            exact ⟨by rw [HS.out]; rfl, HB.out⟩
          | true =>
            have c1 := cell_of K1.out 5 _ rfl; have c2 := cell_of K2.out 5 _ rfl
            go_wp2_with fail
            refine (HC5.out _ HX.out HY.out).mono ?_
            rintro e w5 ⟨rfl, hb⟩
            have HX2 := hid (HX.out.on hb); have HY2 := hid (HY.out.on hb); have HB2 := hid (HB.out.trans (hb.mono HB.out.size))
            have K12 := hid ((hb.block _ (block_lt K1.out)).trans K1.out); have K22 := hid ((hb.block _ (block_lt K2.out)).trans K2.out)
            clear hb HX HY HB K1 K2 c1 c2 HC5
            have HX := HX2; have HY := HY2; have HB := HB2; have K1 := K12; have K2 := K22
            clear HX2 HY2 HB2 K12 K22
            go_wp2
            go_ret
            exact ⟨by rw [HS.out]; rfl, HB.out⟩
end Go.Proofs.Ytlgcdddgahjknaa
end
section
namespace Go.Proofs.Ytlgcdddgahjknaa
open Go Go.RowKit
set_option linter.unusedVariables false
set_option linter.unusedSimpArgs false
theorem load_leaf {W : World} {g k : Nat} {x : Lf} {a : LA} {y : Pnt} {b : PA} (K : W.heap[g]? = some (.cells (ndV k x a y b) NdT (0, 0))) : (Instr.loadAt LfT (.pointer (some ⟨g, 1, none⟩))).run Try.prog W = .ok (.agg (lfV x a)) W :=
  run_loadAt_mid W g 1 LfT (lfV x a).toList _ (fun j v hv => by
    have hj := (List.getElem?_eq_some_iff.1 hv).1
    have h := cell_of K (1 + j) v
    apply h
    rcases j with _ | _ | _ | _ | _ | _ | j
    iterate 6 exact hv
    simp at hj; omega) Try.underlying24 rfl infoLf
theorem load_par {W : World} {g k : Nat} {x : Lf} {a : LA} {y : Pnt} {b : PA} (K : W.heap[g]? = some (.cells (ndV k x a y b) NdT (0, 0))) : (Instr.loadAt PrT (.pointer (some ⟨g, 7, none⟩))).run Try.prog W = .ok (.agg (prV y b)) W :=
  run_loadAt_mid W g 7 PrT (prV y b).toList _ (fun j v hv => by
    have hj := (List.getElem?_eq_some_iff.1 hv).1
    have h := cell_of K (7 + j) v
    apply h
    rcases j with _ | _ | _ | j
    iterate 3 exact hv
    simp at hj; omega) Try.underlying27 rfl infoPr
/-- Two nodes, field by field. -/
def sameNd (k : Nat) (x : Lf) (u : Pnt) (k2 : Nat) (y : Lf) (v : Pnt) : Bool := k == k2 && sameLf x y && u.box == v.box && u.hash == v.hash && u.late == v.late
set_option maxHeartbeats 2000000 in
theorem Same16_any (k : Nat) (x : Lf) (a : LA) (u : Pnt) (p : PA) (k2 : Nat) (y : Lf) (b : LA) (v : Pnt) (q : PA) (w : World) (hx : LfIn w x a) (hy : LfIn w y b) (hu : PrIn w u p) (hv : PrIn w v q) (hl : LfLe x) (hm : PrLe u) :
    Calls Try.prog 19 #[.agg (ndV k x a u p), .agg (ndV k2 y b v q)] w (RetB w (sameNd k x u k2 y v)) := by
  have K1 : Hid (((w.alloc (.cells (ndV k x a u p) NdT)).alloc (.cells (ndV k2 y b v q) NdT)).heap[w.heap.size]? = some (.cells (ndV k x a u p) NdT (0, 0))) := hid ((Below.heap_alloc _ _ w.heap.size (by simp)).trans (heap_alloc_new w (.cells (ndV k x a u p) NdT)))
  have K2 : Hid (((w.alloc (.cells (ndV k x a u p) NdT)).alloc (.cells (ndV k2 y b v q) NdT)).heap[w.heap.size + 1]? = some (.cells (ndV k2 y b v q) NdT (0, 0))) := hid (by have h := heap_alloc_new (w.alloc (.cells (ndV k x a u p) NdT)) (.cells (ndV k2 y b v q) NdT); simpa using h)
  have HB : Hid (Below w.heap.size w ((w.alloc (.cells (ndV k x a u p) NdT)).alloc (.cells (ndV k2 y b v q) NdT))) := hid (((Below.refl _ _).alloc (Nat.le_refl _) _).alloc (by simp) _)
  have HX := hid (hx.on HB.out); have HY := hid (hy.on HB.out); have HU := hid (hu.on HB.out); have HV := hid (hv.on HB.out)
  have HC2 : Hid (∀ W : World, LfIn W x a → LfIn W y b → PrIn W u p → PrIn W v q → Calls Try.prog 23 #[.agg (lfV x a), .agg (lfV y b)] W (RetB W (sameLf x y))) := hid fun W h1 h2 _ _ => SameLeaf16_any x y a b W h1 h2 hl
  have HC3 : Hid (∀ W : World, LfIn W x a → LfIn W y b → PrIn W u p → PrIn W v q → Calls Try.prog 13 #[.slice p.a0 u.box.length p.c0, .slice q.a0 v.box.length q.c0] W (RetB W (u.box == v.box))) := hid fun W _ _ h1 h2 => SameB _ _ _ _ _ _ W h1.1 h2.1 hm.1
  have HC4 : Hid (∀ W : World, LfIn W x a → LfIn W y b → PrIn W u p → PrIn W v q → Calls Try.prog 13 #[.slice p.a1 u.hash.length p.c1, .slice q.a1 v.hash.length q.c1] W (RetB W (u.hash == v.hash))) := hid fun W _ _ h1 h2 => SameB _ _ _ _ _ _ W h1.2.1 h2.2.1 hm.2.1
  have HC5 : Hid (∀ W : World, LfIn W x a → LfIn W y b → PrIn W u p → PrIn W v q → Calls Try.prog 41 #[.slice p.a2 u.late.length p.c2, .slice q.a2 v.late.length q.c2] W (RetB W (u.late == v.late))) := hid fun W _ _ h1 h2 => SameZ _ _ _ _ _ _ W h1.2.2 h2.2.2 hm.2.2
  have HS : Hid (sameNd k x u k2 y v = (k == k2 && sameLf x y && u.box == v.box && u.hash == v.hash && u.late == v.late)) := hid rfl
  obtain ⟨r, hrr⟩ : ∃ t, t = sameNd k x u k2 y v := ⟨_, rfl⟩
  rw [← hrr] at HS ⊢
  obtain ⟨q2, hq2⟩ : ∃ t, t = sameLf x y := ⟨_, rfl⟩
  obtain ⟨q3, hq3⟩ : ∃ t, t = (u.box == v.box) := ⟨_, rfl⟩
  obtain ⟨q4, hq4⟩ : ∃ t, t = (u.hash == v.hash) := ⟨_, rfl⟩
  obtain ⟨q5, hq5⟩ : ∃ t, t = (u.late == v.late) := ⟨_, rfl⟩
  rw [← hq2] at HC2 HS
  rw [← hq3] at HC3 HS
  rw [← hq4] at HC4 HS
  rw [← hq5] at HC5 HS
  have hsi : ((k : Int) == (k2 : Int)) = (k == k2) := by rw [Bool.eq_iff_iff, beq_iff_eq, beq_iff_eq]; omega
  obtain ⟨q1, hq1⟩ : ∃ t, t = (k == k2) := ⟨_, rfl⟩
  rw [← hq1] at hsi HS
  have ck1 := cell_of K1.out 0 _ rfl; have ck2 := cell_of K2.out 0 _ rfl
  have l1 := load_leaf K1.out; have l2 := load_leaf K2.out
  clear hrr hx hy hu hv hl hm hq1 hq2 hq3 hq4 hq5
  go_enter Try.func19, Try.ntmps19
  cases q1 with
  | false =>
    go_wp2
    go_ret
    exact ⟨by rw [HS.out]; rfl, HB.out⟩
  | true =>
    go_wp2_with fail
    refine (HC2.out _ HX.out HY.out HU.out HV.out).mono ?_
    rintro e w2 ⟨rfl, hb⟩
    have HX2 := hid (HX.out.on hb); have HY2 := hid (HY.out.on hb); have HU2 := hid (HU.out.on hb); have HV2 := hid (HV.out.on hb); have HB2 := hid (HB.out.trans (hb.mono HB.out.size))
    have K12 := hid ((hb.block _ (block_lt K1.out)).trans K1.out); have K22 := hid ((hb.block _ (block_lt K2.out)).trans K2.out)
    clear hb HX HY HU HV HB K1 K2 ck1 ck2 l1 l2 HC2
    have HX := HX2; have HY := HY2; have HU := HU2; have HV := HV2; have HB := HB2; have K1 := K12; have K2 := K22
    clear HX2 HY2 HU2 HV2 HB2 K12 K22
    cases q2 with
    | false =>
      go_wp2
      go_ret
      exact ⟨by rw [HS.out]; rfl, HB.out⟩
    | true =>
      have c1 := cell_of K1.out 7 _ rfl; have c2 := cell_of K2.out 7 _ rfl
      go_wp2_with fail
      refine (HC3.out _ HX.out HY.out HU.out HV.out).mono ?_
      rintro e w3 ⟨rfl, hb⟩
      have HX2 := hid (HX.out.on hb); have HY2 := hid (HY.out.on hb); have HU2 := hid (HU.out.on hb); have HV2 := hid (HV.out.on hb); have HB2 := hid (HB.out.trans (hb.mono HB.out.size))
      have K12 := hid ((hb.block _ (block_lt K1.out)).trans K1.out); have K22 := hid ((hb.block _ (block_lt K2.out)).trans K2.out)
      clear hb HX HY HU HV HB K1 K2 c1 c2 HC3
      have HX := HX2; have HY := HY2; have HU := HU2; have HV := HV2; have HB := HB2; have K1 := K12; have K2 := K22
      clear HX2 HY2 HU2 HV2 HB2 K12 K22
      cases q3 with
      | false =>
        go_wp2
        go_ret
        exact ⟨by rw [HS.out]; rfl, HB.out⟩
      | true =>
        have c1 := cell_of K1.out 8 _ rfl; have c2 := cell_of K2.out 8 _ rfl
        go_wp2_with fail
        refine (HC4.out _ HX.out HY.out HU.out HV.out).mono ?_
        rintro e w4 ⟨rfl, hb⟩
        have HX2 := hid (HX.out.on hb); have HY2 := hid (HY.out.on hb); have HU2 := hid (HU.out.on hb); have HV2 := hid (HV.out.on hb); have HB2 := hid (HB.out.trans (hb.mono HB.out.size))
        have K12 := hid ((hb.block _ (block_lt K1.out)).trans K1.out); have K22 := hid ((hb.block _ (block_lt K2.out)).trans K2.out)
        clear hb HX HY HU HV HB K1 K2 c1 c2 HC4
        have HX := HX2; have HY := HY2; have HU := HU2; have HV := HV2; have HB := HB2; have K1 := K12; have K2 := K22
        clear HX2 HY2 HU2 HV2 HB2 K12 K22
        cases q4 with
        | false =>
          go_wp2
          go_ret
          exact ⟨by rw [HS.out]; rfl, HB.out⟩
        | true =>
          have c1 := cell_of K1.out 9 _ rfl; have c2 := cell_of K2.out 9 _ rfl
          go_wp2_with fail
          refine (HC5.out _ HX.out HY.out HU.out HV.out).mono ?_
          rintro e w5 ⟨rfl, hb⟩
          have HX2 := hid (HX.out.on hb); have HY2 := hid (HY.out.on hb); have HU2 := hid (HU.out.on hb); have HV2 := hid (HV.out.on hb); have HB2 := hid (HB.out.trans (hb.mono HB.out.size))
          have K12 := hid ((hb.block _ (block_lt K1.out)).trans K1.out); have K22 := hid ((hb.block _ (block_lt K2.out)).trans K2.out)
          clear hb HX HY HU HV HB K1 K2 c1 c2 HC5
          have HX := HX2; have HY := HY2; have HU := HU2; have HV := HV2; have HB := HB2; have K1 := K12; have K2 := K22
          clear HX2 HY2 HU2 HV2 HB2 K12 K22
          go_wp2
          go_ret
          exact ⟨by rw [HS.out]; rfl, HB.out⟩
end Go.Proofs.Ytlgcdddgahjknaa
end
section
namespace Go.Proofs.Ytlgcdddgahjknaa
open Go Go.RowKit
set_option linter.unusedVariables false
set_option linter.unusedSimpArgs false
/-- Numbers from 0 to 65535 that rise. -/
def badL (l : List Int) (i : Nat) : Bool := decide (l.getD i 0 < 0) || decide (65535 < l.getD i 0) || (decide (0 < i) && decide (l.getD i 0 ≤ l.getD (i - 1) 0))
def riseB (l : List Int) : Bool := (List.range l.length).all fun i => !badL l i
def parB (y : Pnt) : Bool := riseB y.late && (decide (y.box.length = 32) && (decide (y.hash.length = 0) || decide (y.hash.length = 32)))
theorem rise_yes {l : List Int} (h : ∀ i, i < l.length → badL l i = false) : riseB l = true := by
  unfold riseB
  rw [List.all_eq_true]
  intro i hi
  rw [h i (List.mem_range.1 hi)]; rfl
theorem rise_no {l : List Int} {i : Nat} (hi : i < l.length) (h : badL l i = true) : riseB l = false := by
  unfold riseB
  rw [Bool.eq_false_iff]
  intro hc
  have h2 := List.all_eq_true.1 hc i (List.mem_range.2 hi)
  rw [h] at h2; cases h2
theorem wrap64_in' {x : Int} (h1 : -1000000000000000000 ≤ x) (h2 : x ≤ 1000000000000000000) : wrap64 x = x := by unfold wrap64; omega
theorem getD_of {l : List Int} {i : Nat} (h : i < l.length) : l.getD i 0 = l[i] := by rw [List.getD_eq_getElem?_getD, List.getElem?_eq_getElem h]; rfl
set_option maxHeartbeats 2000000 in
theorem RightParent16_any (y : Pnt) (b : PA) (w : World) (hy : PrIn w y b) (hm : PrLe y) : Calls Try.prog 37 #[.agg (prV y b)] w (RetB w (parB y)) := by
  have K1 : Hid ((w.alloc (.cells (prV y b) PrT)).heap[w.heap.size]? = some (.cells (prV y b) PrT (0, 0))) := hid (heap_alloc_new w _)
  have HB : Hid (Below w.heap.size w (w.alloc (.cells (prV y b) PrT))) := hid ((Below.refl _ _).alloc (Nat.le_refl _) _)
  have HL : Hid (Lie (w.alloc (.cells (prV y b) PrT)) w.heap.size b.a2 (izs y.late)) := hid (hy.2.2.below HB.out)
  have HM := hid hm
  obtain ⟨W, hW⟩ : ∃ W, W = w.alloc (.cells (prV y b) PrT) := ⟨_, rfl⟩
  have HW := hid hW
  clear hy hm
  go_enter Try.func37, Try.ntmps37
  go_wp2
  rw [← hW] at HL HB K1
  have e : w.alloc (.cells #[.slice b.a0 y.box.length b.c0, .slice b.a1 y.hash.length b.c1, .slice b.a2 y.late.length b.c2] PrT) = W := hW.symm
  rw [e]
  clear hW e
  go_loopg [3] y.late.length (fun r i wr => ∃ j n : Nat, j + r = y.late.length ∧ i = .int .i64 (j : Int) ∧ (∀ i : Nat, i < j → badL y.late i = false) ∧ wr = W.drewN n)
  case atStart => exact ⟨0, 0, by omega, rfl, fun i hi => by omega, rfl⟩
  case round =>
    obtain ⟨j, n, hj, rfl, hno, rfl⟩ := hrel
    have HJ := hid hj; have HNO := hid hno
    have cL : W.cell? ⟨w.heap.size, 2, none⟩ = some (.slice b.a2 y.late.length b.c2) := cell_of K1.out 2 _ rfl
    clear hj hno
    by_cases hlt : j < y.late.length
    · have hji : (j : Int) < (y.late.length : Int) := by omega
      have hj0 : (0 : Int) ≤ (j : Int) := by omega
      obtain ⟨bb, oo, hAe, hbl, hc⟩ := HL.out.numZ hlt
      have hc2 : W.cell? ⟨bb, oo + j, none⟩ = some (.int .i64 y.late[j]) := hc
      have hg := getD_of hlt
      obtain ⟨v, hv⟩ : ∃ v, v = y.late[j] := ⟨_, rfl⟩
      rw [← hv] at hc2 hg
      have HBAD : Hid (badL y.late j = (decide (v < 0) || decide (65535 < v) || (decide (0 < j) && decide (v ≤ y.late.getD (j - 1) 0)))) := hid (by unfold badL; rw [hg])
      have HLT := hid hlt
      rw [hAe] at cL
      clear hv hg hc hlt
      have hwj : wrap64 ((j : Int) + 1) = (j : Int) + 1 := wrap64_in' (by omega) (by have := HM.out.2.2; omega)
      by_cases h1 : v < 0
      · skip
        have HF : Hid (parB y = false) := hid (by unfold parB; rw [rise_no HLT.out (by rw [HBAD.out, decide_eq_true h1]; simp), Bool.false_and])
        go_wp2
        go_quiet (fail)
        go_wp2
        go_ret
        exact ⟨by rw [HF.out]; rfl, by have h := HB.out; exact belowB_drewN (belowB_drewN h _) _⟩
      · have d1 : decide (v < 0) = false := decide_eq_false h1
        by_cases h2 : 65535 < v
        · skip
          have HF : Hid (parB y = false) := hid (by unfold parB; rw [rise_no HLT.out (by rw [HBAD.out, decide_eq_true h2]; simp), Bool.false_and])
          go_wp2
          go_quiet (fail)
          go_wp2
          go_ret
          exact ⟨by rw [HF.out]; rfl, by have h := HB.out; exact belowB_drewN (belowB_drewN h _) _⟩
        · have d2 : decide (65535 < v) = false := decide_eq_false h2
          by_cases hz : 0 < j
          · have d3 : (0 : Int) < (j : Int) := by omega
            have HZ : Hid (decide (0 < j) = true) := hid (decide_eq_true hz)
            obtain ⟨i, hi⟩ : ∃ i, i = j - 1 := ⟨_, rfl⟩
            have hwi : wrap64 ((j : Int) - 1) = (i : Int) := (wrap64_in' (by omega) (by have := HM.out.2.2; have := HLT.out; omega)).trans (by omega)
            have hii : (i : Int) < (y.late.length : Int) := by have := HLT.out; omega
            have hi0 : (0 : Int) ≤ (i : Int) := by omega
            have hlti : i < y.late.length := by have := HLT.out; omega
            obtain ⟨b2, o2, hAe2, hbl2, hc4⟩ := HL.out.numZ hlti
            obtain ⟨hbe, hoe⟩ : b2 = bb ∧ o2 = oo := by
              rw [hAe] at hAe2
              injection hAe2 with h1
              injection h1 with h1 h2
              exact ⟨h1.symm, h2.symm⟩
            subst hbe hoe
            have hg2 := getD_of hlti
            obtain ⟨u, hu⟩ : ∃ v, v = y.late[i] := ⟨_, rfl⟩
            rw [← hu] at hc4 hg2
            rw [← hi, hg2] at HBAD
            have d3n : 0 < j := hz
            clear hu hg2 hlti hAe2 hi hz hAe
            by_cases h4 : v ≤ u
            · skip
              have HF : Hid (parB y = false) := hid (by unfold parB; rw [rise_no HLT.out (by rw [HBAD.out, decide_eq_true h4, HZ.out, Bool.true_and, Bool.or_true]), Bool.false_and])
              clear HBAD
              go_wp2
              go_quiet (fail)
              go_wp2
              go_ret
              exact ⟨by rw [HF.out]; rfl, by have h := HB.out; exact belowB_drewN (belowB_drewN h _) _⟩
            · have d4 : decide (v ≤ u) = false := decide_eq_false h4
              have HF : Hid (badL y.late j = false) := hid (by rw [HBAD.out, d1, d2, HZ.out, d4]; rfl)
              clear HBAD
              go_wp2
              go_quiet (fail)
              go_wp2
              have hj := HJ.out; have hlt := HLT.out
              go_roundg (y.late.length - (j + 1))
              case measure => clear hwj; omega
              case rel => exact ⟨j + 1, _, by clear hwj; omega, by first | rfl | (rw [hwj]; rfl), fun i hi => by
                rcases Nat.lt_or_ge i j with h | h
                · exact HNO.out i h
                · obtain rfl : i = j := by clear hwj; omega
                  exact HF.out, by first | rfl | exact World.drewN_drewN _ _ _⟩
          · have d3 : decide ((0 : Int) < (j : Int)) = false := decide_eq_false (by omega)
            have HZ : Hid (decide (0 < j) = false) := hid (decide_eq_false hz)
            have d3n : decide (0 < j) = false := decide_eq_false hz
            clear hz hAe
            have HF : Hid (badL y.late j = false) := hid (by rw [HBAD.out, d1, d2, HZ.out]; rfl)
            clear HBAD
            go_wp2
            go_quiet (fail)
            go_wp2
            have hj := HJ.out; have hlt := HLT.out
            go_roundg (y.late.length - (j + 1))
            case measure => clear hwj; omega
            case rel => exact ⟨j + 1, _, by clear hwj; omega, by first | rfl | (rw [hwj]; rfl), fun i hi => by
              rcases Nat.lt_or_ge i j with h | h
              · exact HNO.out i h
              · obtain rfl : i = j := by clear hwj; omega
                exact HF.out, by first | rfl | exact World.drewN_drewN _ _ _⟩
    · have hge : ¬ (j : Int) < (y.late.length : Int) := by omega
      have hri : riseB y.late = true := rise_yes fun i hi => HNO.out i (by omega)
      have HP : Hid (parB y = (decide (y.box.length = 32) && (decide (y.hash.length = 0) || decide (y.hash.length = 32)))) := hid (by unfold parB; rw [hri, Bool.true_and])
      have c0 : W.cell? ⟨w.heap.size, 0, none⟩ = some (.slice b.a0 y.box.length b.c0) := cell_of K1.out 0 _ rfl
      have c1 : W.cell? ⟨w.heap.size, 1, none⟩ = some (.slice b.a1 y.hash.length b.c1) := cell_of K1.out 1 _ rfl
      obtain ⟨n0, hn0⟩ : ∃ t, t = y.box.length := ⟨_, rfl⟩
      obtain ⟨n1, hn1⟩ : ∃ t, t = y.hash.length := ⟨_, rfl⟩
      rw [← hn0, ← hn1] at HP
      rw [← hn0] at c0
      rw [← hn1] at c1
      have hrr : ∃ t, t = parB y := ⟨_, rfl⟩
      clear hlt hri hn0 hn1 hrr
      go_wp2
      all_goals (go_ret; refine ⟨congrArg (fun b => Ending.returned (.bool b)) ?_, by have h := HB.out; exact belowB_drewN h _⟩; have hp := HP.out; clear c0 c1; show (_ : Bool) = _; rw [hp, Bool.eq_iff_iff]; simp; try omega)
end Go.Proofs.Ytlgcdddgahjknaa
end
section
namespace Go.Proofs.Ytlgcdddgahjknaa
open Go Go.RowKit
set_option linter.unusedVariables false
set_option linter.unusedSimpArgs false
abbrev lf0 : Lf := ⟨[], [], [], 0, [], []⟩
abbrev la0 : LA := ⟨none, none, none, none, none, 0, 0, 0, 0, 0⟩
abbrev pr0 : Pnt := ⟨[], [], []⟩
abbrev pa0 : PA := ⟨none, none, none, 0, 0, 0⟩
theorem lf0_in (w : World) : LfIn w lf0 la0 := ⟨Lie.nil, Lie.nil, Lie.nil, Lie.nil, Lie.nil⟩
theorem pr0_in (w : World) : PrIn w pr0 pa0 := ⟨Lie.nil, Lie.nil, Lie.nil⟩
theorem lf0_le : LfLe lf0 := by unfold LfLe; decide
theorem pr0_le : PrLe pr0 := by unfold PrLe; decide
/-- Three new blocks. -/
theorem three {w : World} (o1 o2 o3 : Obj) : ((((w.alloc o1).alloc o2).alloc o3).drew.heap[w.heap.size]? = some o1) ∧ ((((w.alloc o1).alloc o2).alloc o3).drew.heap[w.heap.size + 1]? = some o2) ∧ ((((w.alloc o1).alloc o2).alloc o3).drew.heap[w.heap.size + 1 + 1]? = some o3) ∧ Below w.heap.size w (((w.alloc o1).alloc o2).alloc o3).drew := by
  have h2 := heap_alloc_new (w.alloc o1) o2
  have h3 := heap_alloc_new ((w.alloc o1).alloc o2) o3
  simp only [World.size_alloc] at h2 h3
  refine ⟨?_, ?_, h3, ((((Below.refl _ _).alloc (Nat.le_refl _) _).alloc (by simp) _).alloc (by simp; omega) _).drew⟩
  · exact (Below.heap_alloc _ _ w.heap.size (by simp; omega)).trans ((Below.heap_alloc _ _ w.heap.size (by simp)).trans (heap_alloc_new w o1))
  · exact (Below.heap_alloc _ _ (w.heap.size + 1) (by simp)).trans h2
def smallN (n0 n1 n2 n3 n4 n5 n6 n7 : Nat) : Bool := decide (n0 ≤ 200) && decide (n1 ≤ 200) && decide (n2 ≤ 200) && decide (n3 ≤ 200) && decide (n4 ≤ 200) && decide (n5 ≤ 200) && decide (n6 ≤ 200) && decide (n7 ≤ 60)
def smallB (x : Lf) (u : Pnt) : Bool := smallN x.box.length x.sign.length x.ident.length x.par.length x.sig.length u.box.length u.hash.length u.late.length
set_option maxHeartbeats 4000000 in
theorem Small16_any (k : Nat) (x : Lf) (a : LA) (u : Pnt) (p : PA) (w : World) : Calls Try.prog 9 #[.agg (ndV k x a u p)] w (RetB w (smallB x u)) := by
  have HS : Hid (smallB x u = smallN x.box.length x.sign.length x.ident.length x.par.length x.sig.length u.box.length u.hash.length u.late.length) := hid rfl
  obtain ⟨r, hrr⟩ : ∃ t, t = smallB x u := ⟨_, rfl⟩
  rw [← hrr] at HS ⊢
  clear hrr
  have H1 := hid (heap_alloc_new w (.cells (ndV k x a u p) NdT))
  have x0 := cell_of H1.out 0 _ rfl; have x1 := cell_of H1.out 1 _ rfl; have x2 := cell_of H1.out 2 _ rfl; have x3 := cell_of H1.out 3 _ rfl; have x4 := cell_of H1.out 4 _ rfl; have x5 := cell_of H1.out 5 _ rfl; have x6 := cell_of H1.out 6 _ rfl; have x7 := cell_of H1.out 7 _ rfl; have x8 := cell_of H1.out 8 _ rfl; have x9 := cell_of H1.out 9 _ rfl
  go_enter Try.func9, Try.ntmps9
  go_wp2
  go_region
  all_goals clear x0 x1 x2 x3 x4 x5 x6 x7 x8 x9 H1

  · have T := three (w := w) (.cells (ndV k x a u p) NdT) (.cells (lfV x a) LfT) (.cells (prV u p) PrT)
    generalize hW : World.drew _ = W
    have T2 : W = _ := hW.symm
    have B0 : Hid (Below w.heap.size w W) := hid (by rw [T2]; exact T.2.2.2)
    have K3 : Hid (W.heap[w.heap.size + 1]? = some (.cells (lfV x a) LfT (0, 0))) := hid (by rw [T2]; exact T.2.1)
    have K4 : Hid (W.heap[w.heap.size + 1 + 1]? = some (.cells (prV u p) PrT (0, 0))) := hid (by rw [T2]; exact T.2.2.1)
    clear T T2 hW
    have d0 := cell_of K3.out 0 _ rfl; have d1 := cell_of K3.out 1 _ rfl; have d2 := cell_of K3.out 2 _ rfl; have d3 := cell_of K3.out 4 _ rfl; have d4 := cell_of K3.out 5 _ rfl
    have d5 := cell_of K4.out 0 _ rfl; have d6 := cell_of K4.out 1 _ rfl; have d7 := cell_of K4.out 2 _ rfl
    clear K3 K4
    have e0 : W.cell? ⟨w.heap.size + 1, 0, none⟩ = some (.slice a.a0 x.box.length a.c0) := d0
    obtain ⟨m0, hm0⟩ : ∃ t, t = x.box.length := ⟨_, rfl⟩
    rw [← hm0] at e0 HS
    clear d0 hm0
    have e1 : W.cell? ⟨w.heap.size + 1, 1, none⟩ = some (.slice a.a1 x.sign.length a.c1) := d1
    obtain ⟨m1, hm1⟩ : ∃ t, t = x.sign.length := ⟨_, rfl⟩
    rw [← hm1] at e1 HS
    clear d1 hm1
    have e2 : W.cell? ⟨w.heap.size + 1, 2, none⟩ = some (.slice a.a2 x.ident.length a.c2) := d2
    obtain ⟨m2, hm2⟩ : ∃ t, t = x.ident.length := ⟨_, rfl⟩
    rw [← hm2] at e2 HS
    clear d2 hm2
    have e3 : W.cell? ⟨w.heap.size + 1, 4, none⟩ = some (.slice a.a3 x.par.length a.c3) := d3
    obtain ⟨m3, hm3⟩ : ∃ t, t = x.par.length := ⟨_, rfl⟩
    rw [← hm3] at e3 HS
    clear d3 hm3
    have e4 : W.cell? ⟨w.heap.size + 1, 5, none⟩ = some (.slice a.a4 x.sig.length a.c4) := d4
    obtain ⟨m4, hm4⟩ : ∃ t, t = x.sig.length := ⟨_, rfl⟩
    rw [← hm4] at e4 HS
    clear d4 hm4
    have e5 : W.cell? ⟨w.heap.size + 1 + 1, 0, none⟩ = some (.slice p.a0 u.box.length p.c0) := d5
    obtain ⟨m5, hm5⟩ : ∃ t, t = u.box.length := ⟨_, rfl⟩
    rw [← hm5] at e5 HS
    clear d5 hm5
    have e6 : W.cell? ⟨w.heap.size + 1 + 1, 1, none⟩ = some (.slice p.a1 u.hash.length p.c1) := d6
    obtain ⟨m6, hm6⟩ : ∃ t, t = u.hash.length := ⟨_, rfl⟩
    rw [← hm6] at e6 HS
    clear d6 hm6
    have e7 : W.cell? ⟨w.heap.size + 1 + 1, 2, none⟩ = some (.slice p.a2 u.late.length p.c2) := d7
    obtain ⟨m7, hm7⟩ : ∃ t, t = u.late.length := ⟨_, rfl⟩
    rw [← hm7] at e7 HS
    clear d7 hm7
    go_wp2
    all_goals (go_ret; refine ⟨congrArg (fun b => Ending.returned (.bool b)) ?_, B0.out⟩; have hs := HS.out; clear e0 e1 e2 e3 e4 e5 e6 e7; show (_ : Bool) = _; rw [hs, Bool.eq_iff_iff]; simp [smallN]; try omega)
  · have T := three (w := w) (.cells (ndV k x a u p) NdT) (.cells (prV u p) PrT) (.cells (lfV x a) LfT)
    generalize hW : World.drew _ = W
    have T2 : W = _ := hW.symm
    have B0 : Hid (Below w.heap.size w W) := hid (by rw [T2]; exact T.2.2.2)
    have K3 : Hid (W.heap[w.heap.size + 1 + 1]? = some (.cells (lfV x a) LfT (0, 0))) := hid (by rw [T2]; exact T.2.2.1)
    have K4 : Hid (W.heap[w.heap.size + 1]? = some (.cells (prV u p) PrT (0, 0))) := hid (by rw [T2]; exact T.2.1)
    clear T T2 hW
    have d0 := cell_of K3.out 0 _ rfl; have d1 := cell_of K3.out 1 _ rfl; have d2 := cell_of K3.out 2 _ rfl; have d3 := cell_of K3.out 4 _ rfl; have d4 := cell_of K3.out 5 _ rfl
    have d5 := cell_of K4.out 0 _ rfl; have d6 := cell_of K4.out 1 _ rfl; have d7 := cell_of K4.out 2 _ rfl
    clear K3 K4
    have e0 : W.cell? ⟨w.heap.size + 1 + 1, 0, none⟩ = some (.slice a.a0 x.box.length a.c0) := d0
    obtain ⟨m0, hm0⟩ : ∃ t, t = x.box.length := ⟨_, rfl⟩
    rw [← hm0] at e0 HS
    clear d0 hm0
    have e1 : W.cell? ⟨w.heap.size + 1 + 1, 1, none⟩ = some (.slice a.a1 x.sign.length a.c1) := d1
    obtain ⟨m1, hm1⟩ : ∃ t, t = x.sign.length := ⟨_, rfl⟩
    rw [← hm1] at e1 HS
    clear d1 hm1
    have e2 : W.cell? ⟨w.heap.size + 1 + 1, 2, none⟩ = some (.slice a.a2 x.ident.length a.c2) := d2
    obtain ⟨m2, hm2⟩ : ∃ t, t = x.ident.length := ⟨_, rfl⟩
    rw [← hm2] at e2 HS
    clear d2 hm2
    have e3 : W.cell? ⟨w.heap.size + 1 + 1, 4, none⟩ = some (.slice a.a3 x.par.length a.c3) := d3
    obtain ⟨m3, hm3⟩ : ∃ t, t = x.par.length := ⟨_, rfl⟩
    rw [← hm3] at e3 HS
    clear d3 hm3
    have e4 : W.cell? ⟨w.heap.size + 1 + 1, 5, none⟩ = some (.slice a.a4 x.sig.length a.c4) := d4
    obtain ⟨m4, hm4⟩ : ∃ t, t = x.sig.length := ⟨_, rfl⟩
    rw [← hm4] at e4 HS
    clear d4 hm4
    have e5 : W.cell? ⟨w.heap.size + 1, 0, none⟩ = some (.slice p.a0 u.box.length p.c0) := d5
    obtain ⟨m5, hm5⟩ : ∃ t, t = u.box.length := ⟨_, rfl⟩
    rw [← hm5] at e5 HS
    clear d5 hm5
    have e6 : W.cell? ⟨w.heap.size + 1, 1, none⟩ = some (.slice p.a1 u.hash.length p.c1) := d6
    obtain ⟨m6, hm6⟩ : ∃ t, t = u.hash.length := ⟨_, rfl⟩
    rw [← hm6] at e6 HS
    clear d6 hm6
    have e7 : W.cell? ⟨w.heap.size + 1, 2, none⟩ = some (.slice p.a2 u.late.length p.c2) := d7
    obtain ⟨m7, hm7⟩ : ∃ t, t = u.late.length := ⟨_, rfl⟩
    rw [← hm7] at e7 HS
    clear d7 hm7
    go_wp2
    all_goals (go_ret; refine ⟨congrArg (fun b => Ending.returned (.bool b)) ?_, B0.out⟩; have hs := HS.out; clear e0 e1 e2 e3 e4 e5 e6 e7; show (_ : Bool) = _; rw [hs, Bool.eq_iff_iff]; simp [smallN]; try omega)
def emptyLf (x : Lf) : Bool := sameNd 0 x pr0 0 lf0 pr0
def emptyPr (u : Pnt) : Bool := sameNd 0 lf0 u 0 lf0 pr0
def rightB (k : Nat) (x : Lf) (u : Pnt) : Bool := if k = 0 then emptyLf x && emptyPr u else if k = 1 then leafB x && emptyPr u else if k = 2 then parB u && emptyLf x else false
theorem build_nd (W : World) : (Instr.build NdT #[]).run Try.prog W = .ok (.agg (ndV 0 lf0 la0 pr0 pa0)) W := run_build W NdT _ _ (by kernel_rfl)
set_option maxHeartbeats 8000000 in
theorem Right16_any (k : Nat) (x : Lf) (a : LA) (u : Pnt) (p : PA) (w : World) (hx : LfIn w x a) (hu : PrIn w u p) (hl : LfLe x) (hm : PrLe u) :
    Calls Try.prog 15 #[.agg (ndV k x a u p)] w (RetB w (rightB k x u)) := by
  have HX := hid hx; have HU := hid hu; have HL := hid hl; have HM := hid hm
  clear hx hu hl hm
  have HS : Hid (rightB k x u = if k = 0 then emptyLf x && emptyPr u else if k = 1 then leafB x && emptyPr u else if k = 2 then parB u && emptyLf x else false) := hid rfl
  obtain ⟨r, hrr⟩ : ∃ t, t = rightB k x u := ⟨_, rfl⟩
  obtain ⟨q3, hq3⟩ : ∃ t, t = emptyLf x := ⟨_, rfl⟩
  obtain ⟨q4, hq4⟩ : ∃ t, t = emptyPr u := ⟨_, rfl⟩
  obtain ⟨ql, hql⟩ : ∃ t, t = leafB x := ⟨_, rfl⟩
  obtain ⟨qp, hqp⟩ : ∃ t, t = parB u := ⟨_, rfl⟩
  rw [← hrr, ← hq3, ← hq4, ← hql, ← hqp] at HS
  rw [← hrr]
  have HQ := hid (And.intro hq3 (And.intro hq4 (And.intro hql hqp)))
  clear hrr hq3 hq4 hql hqp
  have H1 := hid (heap_alloc_new w (.cells (ndV k x a u p) NdT))
  have x0 := cell_of H1.out 0 _ rfl; have x1 := cell_of H1.out 1 _ rfl; have x2 := cell_of H1.out 2 _ rfl; have x3 := cell_of H1.out 3 _ rfl; have x4 := cell_of H1.out 4 _ rfl; have x5 := cell_of H1.out 5 _ rfl; have x6 := cell_of H1.out 6 _ rfl; have x7 := cell_of H1.out 7 _ rfl; have x8 := cell_of H1.out 8 _ rfl; have x9 := cell_of H1.out 9 _ rfl
  have hbuild1 : ∀ W : World, (Instr.build NdT #[(1, .agg (lfV x a))]).run Try.prog W = .ok (.agg (ndV 0 x a pr0 pa0)) W := fun W => run_build W NdT _ _ (by kernel_rfl)
  have hbuild2 : ∀ W : World, (Instr.build NdT #[(2, .agg (prV u p))]).run Try.prog W = .ok (.agg (ndV 0 lf0 la0 u p)) W := fun W => run_build W NdT _ _ (by kernel_rfl)
  go_enter Try.func15, Try.ntmps15
  go_wp2
  go_region
  all_goals clear x0 x1 x2 x3 x4 x5 x6 x7 x8 x9 H1 hbuild1 hbuild2
  · have T := three (w := w) (.cells (ndV k x a u p) NdT) (.cells (ndV 0 x a pr0 pa0) NdT) (.cells (ndV 0 lf0 la0 u p) NdT)
    generalize hW : World.drew _ = W
    have T2 : W = _ := hW.symm
    have HB : Hid (Below w.heap.size w W) := hid (by rw [T2]; exact T.2.2.2)
    have K1 : Hid (W.heap[w.heap.size]? = some (.cells (ndV k x a u p) NdT (0, 0))) := hid (by rw [T2]; exact T.1)
    have K3 : Hid (W.heap[w.heap.size + 1]? = some (.cells (ndV 0 x a pr0 pa0) NdT (0, 0))) := hid (by rw [T2]; exact T.2.1)
    have K4 : Hid (W.heap[w.heap.size + 1 + 1]? = some (.cells (ndV 0 lf0 la0 u p) NdT (0, 0))) := hid (by rw [T2]; exact T.2.2.1)
    clear T T2 hW
    have HX1 := hid (HX.out.on HB.out); have HU1 := hid (HU.out.on HB.out)
    have C3 : Hid (∀ V, Below W.heap.size W V → Calls Try.prog 19 #[.agg (ndV 0 x a pr0 pa0), .agg (ndV 0 lf0 la0 pr0 pa0)] V (RetB V q3)) := hid fun V h => HQ.out.1 ▸ Same16_any 0 x a pr0 pa0 0 lf0 la0 pr0 pa0 V (HX1.out.on h) (lf0_in V) (pr0_in V) (pr0_in V) HL.out pr0_le
    have C4 : Hid (∀ V, Below W.heap.size W V → Calls Try.prog 19 #[.agg (ndV 0 lf0 la0 u p), .agg (ndV 0 lf0 la0 pr0 pa0)] V (RetB V q4)) := hid fun V h => HQ.out.2.1 ▸ Same16_any 0 lf0 la0 u p 0 lf0 la0 pr0 pa0 V (lf0_in V) (lf0_in V) (HU1.out.on h) (pr0_in V) lf0_le HM.out
    have CL : Hid (∀ V, Below W.heap.size W V → Calls Try.prog 12 #[.agg (lfV x a)] V (RetB V ql)) := hid fun V _ => HQ.out.2.2.1 ▸ RightLeaf16_any x a V HL.out.2.2.2.2.2
    have CP : Hid (∀ V, Below W.heap.size W V → Calls Try.prog 37 #[.agg (prV u p)] V (RetB V qp)) := hid fun V h => HQ.out.2.2.2 ▸ RightParent16_any u p V (HU1.out.on h) HM.out
    clear HX HU HL HM HX1 HU1 HQ
    have x0 := cell_of K1.out 0 _ rfl; have x1 := cell_of K1.out 1 _ rfl; have x2 := cell_of K1.out 2 _ rfl; have x3 := cell_of K1.out 3 _ rfl; have x4 := cell_of K1.out 4 _ rfl; have x5 := cell_of K1.out 5 _ rfl; have x6 := cell_of K1.out 6 _ rfl; have x7 := cell_of K1.out 7 _ rfl; have x8 := cell_of K1.out 8 _ rfl; have x9 := cell_of K1.out 9 _ rfl
    have y0 := cell_of K3.out 0 _ rfl; have y1 := cell_of K3.out 1 _ rfl; have y2 := cell_of K3.out 2 _ rfl; have y3 := cell_of K3.out 3 _ rfl; have y4 := cell_of K3.out 4 _ rfl; have y5 := cell_of K3.out 5 _ rfl; have y6 := cell_of K3.out 6 _ rfl; have y7 := cell_of K3.out 7 _ rfl; have y8 := cell_of K3.out 8 _ rfl; have y9 := cell_of K3.out 9 _ rfl
    have z0 := cell_of K4.out 0 _ rfl; have z1 := cell_of K4.out 1 _ rfl; have z2 := cell_of K4.out 2 _ rfl; have z3 := cell_of K4.out 3 _ rfl; have z4 := cell_of K4.out 4 _ rfl; have z5 := cell_of K4.out 5 _ rfl; have z6 := cell_of K4.out 6 _ rfl; have z7 := cell_of K4.out 7 _ rfl; have z8 := cell_of K4.out 8 _ rfl; have z9 := cell_of K4.out 9 _ rfl
    have hbuild := build_nd
    by_cases hk0 : k = 0
    · subst hk0
      have HS2 := HS.out
      rw [if_pos rfl] at HS2
      have HS := hid HS2
      clear HS2
      go_wp2_with fail
      refine (C3.out _ (Below.refl _ _)).mono ?_
      rintro e v1 ⟨rfl, hb⟩
      have HB2 := hid (HB.out.trans (hb.mono HB.out.size))
      have HBW : Hid (Below W.heap.size W v1) := hid hb
      have K32 := (hb.block _ (block_lt K3.out)).trans K3.out; have K42 := (hb.block _ (block_lt K4.out)).trans K4.out
      clear hb HB x0 y0 z0 x1 y1 z1 x2 y2 z2 x3 y3 z3 x4 y4 z4 x5 y5 z5 x6 y6 z6 x7 y7 z7 x8 y8 z8 x9 y9 z9 C3
      have HB := HB2
      have y0 := cell_of K32 0 _ rfl; have y1 := cell_of K32 1 _ rfl; have y2 := cell_of K32 2 _ rfl; have y3 := cell_of K32 3 _ rfl; have y4 := cell_of K32 4 _ rfl; have y5 := cell_of K32 5 _ rfl; have y6 := cell_of K32 6 _ rfl; have y7 := cell_of K32 7 _ rfl; have y8 := cell_of K32 8 _ rfl; have y9 := cell_of K32 9 _ rfl
      have z0 := cell_of K42 0 _ rfl; have z1 := cell_of K42 1 _ rfl; have z2 := cell_of K42 2 _ rfl; have z3 := cell_of K42 3 _ rfl; have z4 := cell_of K42 4 _ rfl; have z5 := cell_of K42 5 _ rfl; have z6 := cell_of K42 6 _ rfl; have z7 := cell_of K42 7 _ rfl; have z8 := cell_of K42 8 _ rfl; have z9 := cell_of K42 9 _ rfl
      clear HB2 K32 K42
      cases q3 with
      | false =>
        go_wp2
        go_ret
        exact ⟨by rw [HS.out]; rfl, HB.out⟩
      | true =>
        go_wp2_with fail
        refine (C4.out _ HBW.out).mono ?_
        rintro e v2 ⟨rfl, hb⟩
        have HB2 := hid (HB.out.trans (hb.mono HB.out.size))
        clear hb HB y0 z0 y1 z1 y2 z2 y3 z3 y4 z4 y5 z5 y6 z6 y7 z7 y8 z8 y9 z9
        have HB := HB2
        clear HB2
        go_wp2
        go_ret
        exact ⟨by rw [HS.out]; rfl, HB.out⟩
    · by_cases hk1 : k = 1
      · subst hk1
        have HS2 := HS.out
        rw [if_neg (by omega)] at HS2
        rw [if_pos rfl] at HS2
        have HS := hid HS2
        clear HS2
        go_wp2_with fail
        refine (CL.out _ (Below.refl _ _)).mono ?_
        rintro e v1 ⟨rfl, hb⟩
        have HB2 := hid (HB.out.trans (hb.mono HB.out.size))
        have HBW : Hid (Below W.heap.size W v1) := hid hb
        have K32 := (hb.block _ (block_lt K3.out)).trans K3.out; have K42 := (hb.block _ (block_lt K4.out)).trans K4.out
        clear hb HB x0 y0 z0 x1 y1 z1 x2 y2 z2 x3 y3 z3 x4 y4 z4 x5 y5 z5 x6 y6 z6 x7 y7 z7 x8 y8 z8 x9 y9 z9 CL
        have HB := HB2
        have y0 := cell_of K32 0 _ rfl; have y1 := cell_of K32 1 _ rfl; have y2 := cell_of K32 2 _ rfl; have y3 := cell_of K32 3 _ rfl; have y4 := cell_of K32 4 _ rfl; have y5 := cell_of K32 5 _ rfl; have y6 := cell_of K32 6 _ rfl; have y7 := cell_of K32 7 _ rfl; have y8 := cell_of K32 8 _ rfl; have y9 := cell_of K32 9 _ rfl
        have z0 := cell_of K42 0 _ rfl; have z1 := cell_of K42 1 _ rfl; have z2 := cell_of K42 2 _ rfl; have z3 := cell_of K42 3 _ rfl; have z4 := cell_of K42 4 _ rfl; have z5 := cell_of K42 5 _ rfl; have z6 := cell_of K42 6 _ rfl; have z7 := cell_of K42 7 _ rfl; have z8 := cell_of K42 8 _ rfl; have z9 := cell_of K42 9 _ rfl
        clear HB2 K32 K42
        cases ql with
        | false =>
          go_wp2
          go_ret
          exact ⟨by rw [HS.out]; rfl, HB.out⟩
        | true =>
          go_wp2_with fail
          refine (C4.out _ HBW.out).mono ?_
          rintro e v2 ⟨rfl, hb⟩
          have HB2 := hid (HB.out.trans (hb.mono HB.out.size))
          clear hb HB y0 z0 y1 z1 y2 z2 y3 z3 y4 z4 y5 z5 y6 z6 y7 z7 y8 z8 y9 z9
          have HB := HB2
          clear HB2
          go_wp2
          go_ret
          exact ⟨by rw [HS.out]; rfl, HB.out⟩
      · by_cases hk2 : k = 2
        · subst hk2
          have HS2 := HS.out
          rw [if_neg (by omega)] at HS2
          rw [if_neg (by omega)] at HS2
          rw [if_pos rfl] at HS2
          have HS := hid HS2
          clear HS2
          go_wp2_with fail
          refine (CP.out _ (Below.refl _ _)).mono ?_
          rintro e v1 ⟨rfl, hb⟩
          have HB2 := hid (HB.out.trans (hb.mono HB.out.size))
          have HBW : Hid (Below W.heap.size W v1) := hid hb
          have K32 := (hb.block _ (block_lt K3.out)).trans K3.out; have K42 := (hb.block _ (block_lt K4.out)).trans K4.out
          clear hb HB x0 y0 z0 x1 y1 z1 x2 y2 z2 x3 y3 z3 x4 y4 z4 x5 y5 z5 x6 y6 z6 x7 y7 z7 x8 y8 z8 x9 y9 z9 CP
          have HB := HB2
          have y0 := cell_of K32 0 _ rfl; have y1 := cell_of K32 1 _ rfl; have y2 := cell_of K32 2 _ rfl; have y3 := cell_of K32 3 _ rfl; have y4 := cell_of K32 4 _ rfl; have y5 := cell_of K32 5 _ rfl; have y6 := cell_of K32 6 _ rfl; have y7 := cell_of K32 7 _ rfl; have y8 := cell_of K32 8 _ rfl; have y9 := cell_of K32 9 _ rfl
          have z0 := cell_of K42 0 _ rfl; have z1 := cell_of K42 1 _ rfl; have z2 := cell_of K42 2 _ rfl; have z3 := cell_of K42 3 _ rfl; have z4 := cell_of K42 4 _ rfl; have z5 := cell_of K42 5 _ rfl; have z6 := cell_of K42 6 _ rfl; have z7 := cell_of K42 7 _ rfl; have z8 := cell_of K42 8 _ rfl; have z9 := cell_of K42 9 _ rfl
          clear HB2 K32 K42
          cases qp with
          | false =>
            go_wp2
            go_ret
            exact ⟨by rw [HS.out]; rfl, HB.out⟩
          | true =>
            go_wp2_with fail
            refine (C3.out _ HBW.out).mono ?_
            rintro e v2 ⟨rfl, hb⟩
            have HB2 := hid (HB.out.trans (hb.mono HB.out.size))
            clear hb HB y0 z0 y1 z1 y2 z2 y3 z3 y4 z4 y5 z5 y6 z6 y7 z7 y8 z8 y9 z9
            have HB := HB2
            clear HB2
            go_wp2
            go_ret
            exact ⟨by rw [HS.out]; rfl, HB.out⟩
        · have n0 : ¬ (k : Int) = 0 := by omega
          have n1 : ¬ (k : Int) = 1 := by omega
          have n2 : ¬ (k : Int) = 2 := by omega
          have HF : Hid (r = false) := hid (by rw [HS.out, if_neg hk0, if_neg hk1, if_neg hk2])
          clear hk0 hk1 hk2 HS
          go_wp2
          go_ret
          exact ⟨by rw [HF.out]; rfl, HB.out⟩
  · have T := three (w := w) (.cells (ndV k x a u p) NdT) (.cells (ndV 0 lf0 la0 u p) NdT) (.cells (ndV 0 x a pr0 pa0) NdT)
    generalize hW : World.drew _ = W
    have T2 : W = _ := hW.symm
    have HB : Hid (Below w.heap.size w W) := hid (by rw [T2]; exact T.2.2.2)
    have K1 : Hid (W.heap[w.heap.size]? = some (.cells (ndV k x a u p) NdT (0, 0))) := hid (by rw [T2]; exact T.1)
    have K3 : Hid (W.heap[w.heap.size + 1 + 1]? = some (.cells (ndV 0 x a pr0 pa0) NdT (0, 0))) := hid (by rw [T2]; exact T.2.2.1)
    have K4 : Hid (W.heap[w.heap.size + 1]? = some (.cells (ndV 0 lf0 la0 u p) NdT (0, 0))) := hid (by rw [T2]; exact T.2.1)
    clear T T2 hW
    have HX1 := hid (HX.out.on HB.out); have HU1 := hid (HU.out.on HB.out)
    have C3 : Hid (∀ V, Below W.heap.size W V → Calls Try.prog 19 #[.agg (ndV 0 x a pr0 pa0), .agg (ndV 0 lf0 la0 pr0 pa0)] V (RetB V q3)) := hid fun V h => HQ.out.1 ▸ Same16_any 0 x a pr0 pa0 0 lf0 la0 pr0 pa0 V (HX1.out.on h) (lf0_in V) (pr0_in V) (pr0_in V) HL.out pr0_le
    have C4 : Hid (∀ V, Below W.heap.size W V → Calls Try.prog 19 #[.agg (ndV 0 lf0 la0 u p), .agg (ndV 0 lf0 la0 pr0 pa0)] V (RetB V q4)) := hid fun V h => HQ.out.2.1 ▸ Same16_any 0 lf0 la0 u p 0 lf0 la0 pr0 pa0 V (lf0_in V) (lf0_in V) (HU1.out.on h) (pr0_in V) lf0_le HM.out
    have CL : Hid (∀ V, Below W.heap.size W V → Calls Try.prog 12 #[.agg (lfV x a)] V (RetB V ql)) := hid fun V _ => HQ.out.2.2.1 ▸ RightLeaf16_any x a V HL.out.2.2.2.2.2
    have CP : Hid (∀ V, Below W.heap.size W V → Calls Try.prog 37 #[.agg (prV u p)] V (RetB V qp)) := hid fun V h => HQ.out.2.2.2 ▸ RightParent16_any u p V (HU1.out.on h) HM.out
    clear HX HU HL HM HX1 HU1 HQ
    have x0 := cell_of K1.out 0 _ rfl; have x1 := cell_of K1.out 1 _ rfl; have x2 := cell_of K1.out 2 _ rfl; have x3 := cell_of K1.out 3 _ rfl; have x4 := cell_of K1.out 4 _ rfl; have x5 := cell_of K1.out 5 _ rfl; have x6 := cell_of K1.out 6 _ rfl; have x7 := cell_of K1.out 7 _ rfl; have x8 := cell_of K1.out 8 _ rfl; have x9 := cell_of K1.out 9 _ rfl
    have y0 := cell_of K3.out 0 _ rfl; have y1 := cell_of K3.out 1 _ rfl; have y2 := cell_of K3.out 2 _ rfl; have y3 := cell_of K3.out 3 _ rfl; have y4 := cell_of K3.out 4 _ rfl; have y5 := cell_of K3.out 5 _ rfl; have y6 := cell_of K3.out 6 _ rfl; have y7 := cell_of K3.out 7 _ rfl; have y8 := cell_of K3.out 8 _ rfl; have y9 := cell_of K3.out 9 _ rfl
    have z0 := cell_of K4.out 0 _ rfl; have z1 := cell_of K4.out 1 _ rfl; have z2 := cell_of K4.out 2 _ rfl; have z3 := cell_of K4.out 3 _ rfl; have z4 := cell_of K4.out 4 _ rfl; have z5 := cell_of K4.out 5 _ rfl; have z6 := cell_of K4.out 6 _ rfl; have z7 := cell_of K4.out 7 _ rfl; have z8 := cell_of K4.out 8 _ rfl; have z9 := cell_of K4.out 9 _ rfl
    have hbuild := build_nd
    by_cases hk0 : k = 0
    · subst hk0
      have HS2 := HS.out
      rw [if_pos rfl] at HS2
      have HS := hid HS2
      clear HS2
      go_wp2_with fail
      refine (C3.out _ (Below.refl _ _)).mono ?_
      rintro e v1 ⟨rfl, hb⟩
      have HB2 := hid (HB.out.trans (hb.mono HB.out.size))
      have HBW : Hid (Below W.heap.size W v1) := hid hb
      have K32 := (hb.block _ (block_lt K3.out)).trans K3.out; have K42 := (hb.block _ (block_lt K4.out)).trans K4.out
      clear hb HB x0 y0 z0 x1 y1 z1 x2 y2 z2 x3 y3 z3 x4 y4 z4 x5 y5 z5 x6 y6 z6 x7 y7 z7 x8 y8 z8 x9 y9 z9 C3
      have HB := HB2
      have y0 := cell_of K32 0 _ rfl; have y1 := cell_of K32 1 _ rfl; have y2 := cell_of K32 2 _ rfl; have y3 := cell_of K32 3 _ rfl; have y4 := cell_of K32 4 _ rfl; have y5 := cell_of K32 5 _ rfl; have y6 := cell_of K32 6 _ rfl; have y7 := cell_of K32 7 _ rfl; have y8 := cell_of K32 8 _ rfl; have y9 := cell_of K32 9 _ rfl
      have z0 := cell_of K42 0 _ rfl; have z1 := cell_of K42 1 _ rfl; have z2 := cell_of K42 2 _ rfl; have z3 := cell_of K42 3 _ rfl; have z4 := cell_of K42 4 _ rfl; have z5 := cell_of K42 5 _ rfl; have z6 := cell_of K42 6 _ rfl; have z7 := cell_of K42 7 _ rfl; have z8 := cell_of K42 8 _ rfl; have z9 := cell_of K42 9 _ rfl
      clear HB2 K32 K42
      cases q3 with
      | false =>
        go_wp2
        go_ret
        exact ⟨by rw [HS.out]; rfl, HB.out⟩
      | true =>
        go_wp2_with fail
        refine (C4.out _ HBW.out).mono ?_
        rintro e v2 ⟨rfl, hb⟩
        have HB2 := hid (HB.out.trans (hb.mono HB.out.size))
        clear hb HB y0 z0 y1 z1 y2 z2 y3 z3 y4 z4 y5 z5 y6 z6 y7 z7 y8 z8 y9 z9
        have HB := HB2
        clear HB2
        go_wp2
        go_ret
        exact ⟨by rw [HS.out]; rfl, HB.out⟩
    · by_cases hk1 : k = 1
      · subst hk1
        have HS2 := HS.out
        rw [if_neg (by omega)] at HS2
        rw [if_pos rfl] at HS2
        have HS := hid HS2
        clear HS2
        go_wp2_with fail
        refine (CL.out _ (Below.refl _ _)).mono ?_
        rintro e v1 ⟨rfl, hb⟩
        have HB2 := hid (HB.out.trans (hb.mono HB.out.size))
        have HBW : Hid (Below W.heap.size W v1) := hid hb
        have K32 := (hb.block _ (block_lt K3.out)).trans K3.out; have K42 := (hb.block _ (block_lt K4.out)).trans K4.out
        clear hb HB x0 y0 z0 x1 y1 z1 x2 y2 z2 x3 y3 z3 x4 y4 z4 x5 y5 z5 x6 y6 z6 x7 y7 z7 x8 y8 z8 x9 y9 z9 CL
        have HB := HB2
        have y0 := cell_of K32 0 _ rfl; have y1 := cell_of K32 1 _ rfl; have y2 := cell_of K32 2 _ rfl; have y3 := cell_of K32 3 _ rfl; have y4 := cell_of K32 4 _ rfl; have y5 := cell_of K32 5 _ rfl; have y6 := cell_of K32 6 _ rfl; have y7 := cell_of K32 7 _ rfl; have y8 := cell_of K32 8 _ rfl; have y9 := cell_of K32 9 _ rfl
        have z0 := cell_of K42 0 _ rfl; have z1 := cell_of K42 1 _ rfl; have z2 := cell_of K42 2 _ rfl; have z3 := cell_of K42 3 _ rfl; have z4 := cell_of K42 4 _ rfl; have z5 := cell_of K42 5 _ rfl; have z6 := cell_of K42 6 _ rfl; have z7 := cell_of K42 7 _ rfl; have z8 := cell_of K42 8 _ rfl; have z9 := cell_of K42 9 _ rfl
        clear HB2 K32 K42
        cases ql with
        | false =>
          go_wp2
          go_ret
          exact ⟨by rw [HS.out]; rfl, HB.out⟩
        | true =>
          go_wp2_with fail
          refine (C4.out _ HBW.out).mono ?_
          rintro e v2 ⟨rfl, hb⟩
          have HB2 := hid (HB.out.trans (hb.mono HB.out.size))
          clear hb HB y0 z0 y1 z1 y2 z2 y3 z3 y4 z4 y5 z5 y6 z6 y7 z7 y8 z8 y9 z9
          have HB := HB2
          clear HB2
          go_wp2
          go_ret
          exact ⟨by rw [HS.out]; rfl, HB.out⟩
      · by_cases hk2 : k = 2
        · subst hk2
          have HS2 := HS.out
          rw [if_neg (by omega)] at HS2
          rw [if_neg (by omega)] at HS2
          rw [if_pos rfl] at HS2
          have HS := hid HS2
          clear HS2
          go_wp2_with fail
          refine (CP.out _ (Below.refl _ _)).mono ?_
          rintro e v1 ⟨rfl, hb⟩
          have HB2 := hid (HB.out.trans (hb.mono HB.out.size))
          have HBW : Hid (Below W.heap.size W v1) := hid hb
          have K32 := (hb.block _ (block_lt K3.out)).trans K3.out; have K42 := (hb.block _ (block_lt K4.out)).trans K4.out
          clear hb HB x0 y0 z0 x1 y1 z1 x2 y2 z2 x3 y3 z3 x4 y4 z4 x5 y5 z5 x6 y6 z6 x7 y7 z7 x8 y8 z8 x9 y9 z9 CP
          have HB := HB2
          have y0 := cell_of K32 0 _ rfl; have y1 := cell_of K32 1 _ rfl; have y2 := cell_of K32 2 _ rfl; have y3 := cell_of K32 3 _ rfl; have y4 := cell_of K32 4 _ rfl; have y5 := cell_of K32 5 _ rfl; have y6 := cell_of K32 6 _ rfl; have y7 := cell_of K32 7 _ rfl; have y8 := cell_of K32 8 _ rfl; have y9 := cell_of K32 9 _ rfl
          have z0 := cell_of K42 0 _ rfl; have z1 := cell_of K42 1 _ rfl; have z2 := cell_of K42 2 _ rfl; have z3 := cell_of K42 3 _ rfl; have z4 := cell_of K42 4 _ rfl; have z5 := cell_of K42 5 _ rfl; have z6 := cell_of K42 6 _ rfl; have z7 := cell_of K42 7 _ rfl; have z8 := cell_of K42 8 _ rfl; have z9 := cell_of K42 9 _ rfl
          clear HB2 K32 K42
          cases qp with
          | false =>
            go_wp2
            go_ret
            exact ⟨by rw [HS.out]; rfl, HB.out⟩
          | true =>
            go_wp2_with fail
            refine (C3.out _ HBW.out).mono ?_
            rintro e v2 ⟨rfl, hb⟩
            have HB2 := hid (HB.out.trans (hb.mono HB.out.size))
            clear hb HB y0 z0 y1 z1 y2 z2 y3 z3 y4 z4 y5 z5 y6 z6 y7 z7 y8 z8 y9 z9
            have HB := HB2
            clear HB2
            go_wp2
            go_ret
            exact ⟨by rw [HS.out]; rfl, HB.out⟩
        · have n0 : ¬ (k : Int) = 0 := by omega
          have n1 : ¬ (k : Int) = 1 := by omega
          have n2 : ¬ (k : Int) = 2 := by omega
          have HF : Hid (r = false) := hid (by rw [HS.out, if_neg hk0, if_neg hk1, if_neg hk2])
          clear hk0 hk1 hk2 HS
          go_wp2
          go_ret
          exact ⟨by rw [HF.out]; rfl, HB.out⟩
end Go.Proofs.Ytlgcdddgahjknaa
end
section
namespace Go.Proofs.Ytlgcdddgahjknaa
open Go Go.RowKit
set_option linter.unusedVariables false
set_option linter.unusedSimpArgs false
/-- Bytes that lie somewhere. -/
def RetQ (W : World) (xs : List UInt8) (e : Ending) (w' : World) : Prop := ∃ A c, e = .returned (.slice A xs.length c) ∧ Sq w' w'.heap.size A c (bvs xs) ∧ Below W.heap.size W w'
theorem retQ_of {P : Program} {f : FuncId} {args : Array Value} {W : World} {xs : List UInt8} (h : Calls P f args W fun e w' => ∃ v, e = .returned v ∧ OwnB w' W.heap.size v xs ∧ W.grownBy w' none) : Calls P f args W (RetQ W xs) := h.mono fun e w' ⟨v, he, ho, hg⟩ => by
  obtain ⟨A, c, rfl, hs⟩ := own_sl ho
  exact ⟨A, c, he, hs.sq, (Below.refl _ _).grown hg (Nat.le_refl _) (fun _ h => by cases h)⟩
theorem VecQ (A : Option Addr) (ys : List UInt8) (c : Nat) (W : World) (hn : ys.length < 1073741824) (hA : Lie W W.heap.size A (bvs ys)) : Calls Try.prog 36 #[.slice A ys.length c] W (RetQ W (vecBytes ys)) := retQ_of (RefVec_any A ys c W hn hA)
theorem NumQ (s n : Nat) (W : World) (hs : s ≤ 8) (hn : n < 18446744073709551616) : Calls Try.prog 38 #[.int .i64 (s : Int), .int .u64 (n : Int)] W (RetQ W (beBytes s n)) := retQ_of (RefNum_any s n W hs hn)
theorem join16 (A : Option Addr) (xs : List UInt8) (c : Nat) (A' : Option Addr) (ys : List UInt8) (c' : Nat) (w : World) (hx : Lie w w.heap.size A (bvs xs)) (hy : Lie w w.heap.size A' (bvs ys)) (hl : xs.length ≤ 1000000) (hm : ys.length ≤ 1000000) :
    Calls Try.prog 34 #[.slice A xs.length c, .slice A' ys.length c'] w (RetQ w (xs ++ ys)) := by
  have HX := hid hx; have HY := hid hy; have HL := hid hl; have HM := hid hm
  clear hx hy hl hm
  go_enter Try.func34, Try.ntmps34
  go_wp2_with (at_builtin; refine wpList_append_lie rfl _ _ 22 rfl w.heap.size 5 (.int .u8 0) 1 Try.underlying22 infoU8 rfl rfl (World.ownsRow_lit w #[] 0 (Nat.le_refl _) (by simp) rfl) (bvs_length xs) rfl (HX.out.alloc (Nat.le_refl _) _) (bvs_one xs) ?d1 ?d2 ?d3 ?_)
  case d1 => have := HL.out; unfold maxLen; simp; omega
  case d2 => have := HL.out; simp; omega
  case d3 => simp
  intro v1 w1 hown1 hg1 hat1
  have hB1 : Below w.heap.size w w1 := ((Below.refl _ _).alloc (Nat.le_refl _) _).grown hg1 (by simp) (fun k h => by simp [Value.ownBlock] at h; omega)
  have hY1 := HY.out.below hB1
  have HB1 := hid hB1
  have HO1 := hid hown1
  clear hg1 hat1 hown1 hB1
  go_wp2_with (at_builtin; refine wpList_append_lie rfl _ _ 22 rfl w.heap.size 5 (.int .u8 0) 1 Try.underlying22 infoU8 rfl rfl HO1.out (bvs_length ys) rfl hY1 (bvs_one ys) ?e1 ?e2 ?e3 ?_)
  case e1 => have := HL.out; have := HM.out; unfold maxLen; simp; omega
  case e2 => have := HL.out; have := HM.out; simp; omega
  case e3 => exact HB1.out.size
  intro v2 w2 hown2 hg2 hat2
  have hB2 : Below w.heap.size w w2 := HB1.out.grown hg2 HB1.out.size (own_lt HO1.out)
  have ho2 : OwnB w2 w.heap.size v2 (xs ++ ys) := by simpa [OwnB, bvs_append] using hown2
  obtain ⟨A2, c2, rfl, hs2⟩ := own_sl ho2
  go_wp2
  go_ret
  exact ⟨A2, c2, rfl, hs2.sq, hB2⟩
theorem lie_to {w w' : World} {A : Option Addr} {xs : List Value} (h : Lie w w.heap.size A xs) (hb : Below w.heap.size w w') : Lie w' w'.heap.size A xs := (h.below hb).more hb.size
theorem src_byte {r : Nat} (h : r < 256) : bvs [UInt8.ofNat r] = [.int .u8 (r : Int)] := by
  simp only [bvs, List.map_cons, List.map_nil, UInt8.toNat_ofNat']
  congr 2
  omega
/-- A leaf's bytes but for the signature. -/
def aheadB (x : Lf) : List UInt8 := (vecBytes x.box ++ vecBytes x.sign) ++ (vecBytes x.ident ++ [UInt8.ofNat x.src]) ++ (if x.src = 3 then vecBytes x.par else [])
def Lf200 (x : Lf) : Prop := x.box.length ≤ 200 ∧ x.sign.length ≤ 200 ∧ x.ident.length ≤ 200 ∧ x.par.length ≤ 200 ∧ x.sig.length ≤ 200 ∧ x.src < 256
theorem vec_le {xs : List UInt8} (h : xs.length ≤ 100000) : (vecBytes xs).length ≤ 100004 := by
  have h1 := lenBytes_length xs.length
  have h2 := lenSize_le xs.length
  simp only [vecBytes, List.length_append]
  omega
section
variable {P : Program} {ops : Array Oper} {Q : Exit → Act → World → Prop} {md : Region.Mode} {n : Nat} {a : Act} {w0 : World}
/-- A drawn region in which a call that makes bytes and a slice that is built may come up. -/
theorem wpGrA_bytes_slice {g k : Nat} {l : List Oper} {i j : Nat} {oi oj : Oper} {listed : Array Bool} {fn : FuncId} {args : Array Value} (xs : List UInt8) (hi : ops[i]? = some oi) (hj : ops[j]? = some oj)
    (hrd : (Region.ready md ops listed == [i, j] && decide (i < n) && decide (j < n)) = true)
    (hw : Region.wanted oi (yielded ops a.tmps) = true) (hr : ∀ w', (execOp a.eval oi).run P w' = .ok (.enter fn args) w')
    (hc : ∀ w', Below w0.heap.size w0 w' → Calls P fn args w' (RetQ w' xs))
    (hwj : Region.wanted oj (yielded ops a.tmps) = true) (t e : TypeId) (len : Nat) (parts : Array (Nat × Operand)) (ho : oj.op = .buildSlice t len parts) (hu : P.underlying t = some (.slice e))
    (ls : List (Nat × Value)) (hl : (parts.toList.map fun (i, x) => (i, a.eval x)) = ls) (zs : List Value) (hf : P.builtSlice e len ls = some zs.toArray) (hn : zs.length ≤ len) (hm : len ≤ 9223372036854775807)
    (h1 : ∀ A c w2, Below w0.heap.size w0 w2 → Sq w2 w2.heap.size A c (bvs xs) → wpGrA P md ops Q n (GrL P md ops Q g n l) w2 k (listed.setIfInBounds i true) (a.put oi.dst (.slice A xs.length c)))
    (h2 : ∀ p w2, Below w0.heap.size w0 w2 → Sq w2 w2.heap.size (some ⟨p, 0, none⟩) len zs → wpGrA P md ops Q n (GrL P md ops Q g n l) w2 k (listed.setIfInBounds j true) (a.put oj.dst (.slice (some ⟨p, 0, none⟩) len len))) :
    wpGrA P md ops Q n (GrL P md ops Q g n l) w0 (k + 1) listed a := fun w hb => by
  simp only [Bool.and_eq_true, decide_eq_true_eq, beq_iff_eq] at hrd
  refine wpGr_ready hrd.1.1 (by simp) (by simp [hrd.1.2, hrd.2]) fun m hm2 => ?_
  simp only [List.mem_cons, List.not_mem_nil, or_false] at hm2
  rcases hm2 with rfl | rfl
  · unfold wpOp
    simp only [hi]
    rw [if_pos hw]
    refine .inl ?_
    unfold Oper.wp
    rw [hr w]
    refine (hc w hb).mono fun e w'' ⟨A, c, he, hs, hb2⟩ => ?_
    subst he
    exact ⟨hb2, fun w3 hw3 => h1 A c w'' (hb.trans (hb2.mono hb.size)) hs w3 hw3⟩
  · refine wpOp_sliceTo1 hj hwj t e len parts ho hu zs.toArray (by rw [Array.toList_map, hl]; exact hf) ⟨(Below.refl _ _).alloc (Nat.le_refl _) _, fun w3 hw3 => ?_⟩
    refine h2 w.heap.size (w.alloc (.cells zs.toArray e)) (hb.alloc hb.size _) (.inr ⟨w.heap.size, 0, rfl, by simp, by simpa using hn, hm, fun j u hj => ?_⟩) w3 hw3
    rw [Nat.zero_add, cell_of_row _ _ j _ e (0, 0) (heap_alloc_new w _)]
    simpa using hj
theorem wpGrA_q {g f : Nat} {l : List Oper} {i : Nat} {oi : Oper} {listed : Array Bool} {fn : FuncId} {args : Array Value} (xs : List UInt8) (hi : ops[i]? = some oi) (hrd : (Region.ready md ops listed == [i] && decide (i < n)) = true)
    (hw : Region.wanted oi (yielded ops a.tmps) = true) (hr : ∀ w', (execOp a.eval oi).run P w' = .ok (.enter fn args) w') (hc : ∀ w', Below w0.heap.size w0 w' → Calls P fn args w' (RetQ w' xs))
    (h : ∀ A c w2, Below w0.heap.size w0 w2 → Sq w2 w2.heap.size A c (bvs xs) → wpGrA P md ops Q n (GrL P md ops Q g n l) w2 f (listed.setIfInBounds i true) (a.put oi.dst (.slice A xs.length c))) : wpGrA P md ops Q n (GrL P md ops Q g n l) w0 (f + 1) listed a :=
  wpGrA_call (fun w' v w'' => ∃ A c, v = .slice A xs.length c ∧ Sq w'' w''.heap.size A c (bvs xs)) hi hrd hw hr (fun w' hb => (hc w' hb).mono fun e w'' ⟨A, c, he, hs, hb2⟩ => ⟨_, he, hb2, A, c, rfl, hs⟩)
    fun w' v w'' hb hb2 ⟨A, c, hv, hs⟩ => by
      subst hv
      exact h A c w'' (hb.trans (hb2.mono hb.size)) hs
theorem wpLA_q {o : Oper} {rest : List Oper} {f : FuncId} {args : Array Value} (xs : List UInt8) (hw : Region.wanted o (yielded ops a.tmps) = true) (hr : ∀ w', (execOp a.eval o).run P w' = .ok (.enter f args) w') (hc : ∀ w', Below w0.heap.size w0 w' → Calls P f args w' (RetQ w' xs))
    (h : ∀ A c w2, Below w0.heap.size w0 w2 → Sq w2 w2.heap.size A c (bvs xs) → wpLA P ops Q w2 rest (a.put o.dst (.slice A xs.length c))) : wpLA P ops Q w0 (o :: rest) a :=
  wpLA_call (fun w' v w'' => (∃ A c, v = .slice A xs.length c ∧ Sq w'' w''.heap.size A c (bvs xs)) ∧ Below w'.heap.size w' w'') hw hr (fun w' hb => (hc w' hb).mono fun e w'' ⟨A, c, he, hs, hb2⟩ => ⟨_, he, ⟨A, c, rfl, hs⟩, hb2⟩)
    fun w' v w'' hb ⟨⟨A, c, hv, hs⟩, hb2⟩ => by
      subst hv
      exact h A c w'' (hb.trans (hb2.mono hb.size)) hs
end
end Go.Proofs.Ytlgcdddgahjknaa
end
section
namespace Go.Proofs.Ytlgcdddgahjknaa
open Go Go.RowKit
set_option linter.unusedVariables false
set_option linter.unusedSimpArgs false
/-- A length at a place, as the document tells it. -/
def lenD (xs : List UInt8) (i : Nat) : Int × Int × Int := if (lenAt (xs.drop i)).2.2 = 0 then (((lenAt (xs.drop i)).1 : Int), (i : Int) + ((lenAt (xs.drop i)).2.1 : Int), 0) else (0, (i : Int), ((lenAt (xs.drop i)).2.2 : Int))
theorem lenAt_cons (x : UInt8) (l : List UInt8) : lenAt (x :: l) = if x.toNat < 64 then (x.toNat, 1, 0)
    else if 192 ≤ x.toNat then (0, 0, 3)
    else if x.toNat < 128 then
      if l.length < 1 then (0, 0, 4) else if lenSize (beNum (x.toNat % 64) (l.take 1)) = 2 then (beNum (x.toNat % 64) (l.take 1), 2, 0) else (0, 0, 3)
    else if l.length < 3 then (0, 0, 4) else if lenSize (beNum (x.toNat % 64) (l.take 3)) = 4 then (beNum (x.toNat % 64) (l.take 3), 4, 0) else (0, 0, 3) := rfl
theorem step_wraps {a j v y : Nat} (h1 : a ≤ 1000000) (h2 : j ≤ 3) (h3 : v < 4194304) (h4 : y < 256) : wrap64 ((a : Int) + ((j : Int) + 1)) = ((a + 1 + j : Nat) : Int) ∧ wrap64 (256 * (v : Int)) = 256 * (v : Int) ∧ wrap64 (256 * (v : Int) + (y : Int)) = 256 * (v : Int) + (y : Int) ∧ wrap64 ((j : Int) + 1 + 1) = (j : Int) + 1 + 1 ∧ wrap64 (y : Int) = (y : Int) :=
  ⟨(wrap64_in' (by omega) (by omega)).trans (by omega), wrap64_in' (by omega) (by omega), wrap64_in' (by omega) (by omega), wrap64_in' (by omega) (by omega), wrap64_in' (by omega) (by omega)⟩
theorem beNum_append (a : Nat) (l m : List UInt8) : beNum a (l ++ m) = beNum (beNum a l) m := by
  induction l generalizing a with
  | nil => rfl
  | cons y l ih => exact ih _
set_option maxRecDepth 100000 in
set_option maxHeartbeats 4000000 in
theorem readLen_any (A : Option Addr) (xs : List UInt8) (c at' : Nat) (w : World) (hA : Lie w w.heap.size A (bvs xs)) (hb : xs.length ≤ 1000000) (hat : at' ≤ xs.length) :
    Calls Try.prog 74 #[.slice A xs.length c, .int .i64 (at' : Int)] w fun e w' => e = .returned (.tuple #[.int .i64 (lenD xs at').1, .int .i64 (lenD xs at').2.1, .int .i64 (lenD xs at').2.2]) ∧ Below w.heap.size w w' := by
  have HA := hid hA
  by_cases hlt : at' < xs.length
  · obtain ⟨b, o, hAe, hbl, hc⟩ := hA.byte hlt
    have hdr : xs.drop at' = xs[at'] :: xs.drop (at' + 1) := (List.drop_eq_getElem_cons hlt)
    obtain ⟨xb, hxb⟩ : ∃ t, t = xs[at'] := ⟨_, rfl⟩
    rw [← hxb] at hdr hc
    obtain ⟨x, hx⟩ : ∃ t, t = xb.toNat := ⟨_, rfl⟩
    have hxl : x < 256 := by rw [hx]; exact UInt8.toNat_lt _
    have HAE := hid hAe
    have hi : (at' : Int) < (xs.length : Int) := by omega
    have hi2 : (0 : Int) ≤ (at' : Int) := by omega
    have hge0 : ¬ (xs.length : Int) ≤ (at' : Int) := by omega
    have hm64 : Int.tmod (x : Int) 64 = ((x % 64 : Nat) : Int) := by rw [Int.tmod_eq_emod_of_nonneg (by omega)]; omega
    have HM : Hid ((x : Int) % 64 = ((x % 64 : Nat) : Int)) := hid (by omega)
    rw [← hx] at hc
    clear hA hxb hlt
    rw [hAe]
    go_enter Try.func74, Try.ntmps74
    have hle : (x : Int) < 64 ∨ (64 ≤ (x : Int) ∧ (x : Int) < 128) ∨ (128 ≤ (x : Int) ∧ (x : Int) < 192) ∨ 192 ≤ (x : Int) := by omega
    rcases hle with h1 | ⟨h1, h2⟩ | ⟨h1, h2⟩ | h1
    · have d1 : decide (64 ≤ (x : Int)) = false := decide_eq_false (by omega)
      have d2 : decide (128 ≤ (x : Int)) = false := decide_eq_false (by omega)
      have d3 : decide (192 ≤ (x : Int)) = false := decide_eq_false (by omega)
      have HL : Hid (at' + 1 ≤ xs.length → lenAt (xs.drop at') = if lenSize (beNum (x % 64) ((xs.drop (at' + 1)).take 0)) = 1 then (beNum (x % 64) ((xs.drop (at' + 1)).take 0), 1, 0) else (0, 0, 3)) := hid fun h => by
        have h2 : beNum (x % 64) ((xs.drop (at' + 1)).take 0) = x := by show x % 64 = x; omega
        rw [h2, if_pos (by unfold lenSize; rw [if_pos (by omega)]), hdr, lenAt_cons, ← hx, if_pos (by omega)]
      clear hdr hx
      have hsl : at' + 1 ≤ xs.length := by omega
      have hsz : ¬ (xs.length : Int) < (at' : Int) + 1 := by omega
      have hszn : at' + 1 ≤ xs.length := by omega
      have hw7 : wrap64 ((at' : Int) + 1) = (at' : Int) + 1 := wrap64_in' (by omega) (by omega)
      have HSZ := hid hszn
      clear hszn hsl
      go_wp2
      clear hm64 hc
      go_loopg [8, 9] 0 (fun r acc i wr => ∃ j : Nat, j + r = 0 ∧ acc = .int .i64 ((beNum (x % 64) ((xs.drop (at' + 1)).take j) : Nat) : Int) ∧ i = .int .i64 ((j : Int) + 1) ∧ wr = w)
      case atStart => exact ⟨0, by omega, by first | rfl | (rw [← HM.out]; rfl), rfl, rfl⟩
      case round =>
        obtain ⟨j, hj, rfl, rfl, hwr⟩ := hrel
        subst hwr
        have HJ := hid hj
        by_cases hlt : j < 0
        · exact absurd hlt (Nat.not_lt_zero _)
        · obtain rfl : j = 0 := by omega
          have hge : ¬ (((0 : Nat) : Int) + 1 < 1) := by omega
          have hbd : beNum (x % 64) ((xs.drop (at' + 1)).take 0) < 1073741824 := by
            have h := beNum_lt (x % 64) ((xs.drop (at' + 1)).take 0)
            rw [List.length_take, List.length_drop, Nat.min_eq_left (by have := HSZ.out; omega)] at h
            have h2 : (x % 64 + 1) * 256 ^ 0 ≤ 64 * 256 ^ 0 := Nat.mul_le_mul_right _ (by omega)
            have h3 : 64 * 256 ^ 0 ≤ 1073741824 := by decide
            omega
          have HRL := hid (fun V => RefLen_any (beNum (x % 64) ((xs.drop (at' + 1)).take 0)) V hbd)
          have hw5 : wrap64 ((at' : Int) + 1) = (at' : Int) + 1 := hw7
          obtain ⟨v, hv⟩ : ∃ t, t = beNum (x % 64) ((xs.drop (at' + 1)).take 0) := ⟨_, rfl⟩
          rw [← hv] at HRL ⊢
          have HV := hid hv
          have HLB := hid (lenBytes_length v)
          clear hbd hv hj hlt
          go_wp2_with fail
          refine (HRL.out _).mono ?_
          rintro e w2 ⟨vv, rfl, ho, hg⟩
          have HB2 : Hid (Below wr.heap.size wr w2) := hid ((Below.refl _ _).grown hg (Nat.le_refl _) (fun _ h => by cases h))
          obtain ⟨A2, c2, rfl, -⟩ := own_sl ho
          clear ho hg
          by_cases hs : lenSize v = 1
          · have hr : lenD xs at' = ((v : Int), (at' : Int) + 1, 0) := by
              unfold lenD
              rw [HL.out (by have := HSZ.out; omega), ← HV.out, if_pos hs]
              simp
            have HR := hid hr
            have hlb := HLB.out
            rw [hs] at hlb
            have hlbi : ((lenBytes v).length : Int) = 1 := by omega
            rw [hlb]
            clear hr hs hlb hlbi
            go_wp2
            go_ret3
            exact ⟨by rw [HR.out]; rfl, HB2.out⟩
          · have hr : lenD xs at' = (0, (at' : Int), 3) := by
              unfold lenD
              rw [HL.out (by have := HSZ.out; omega), ← HV.out, if_neg hs]
              rfl
            have HR := hid hr
            have hlb := HLB.out
            have hlbi : ¬ ((lenBytes v).length : Int) = 1 := by omega
            have hlb2 : (((lenBytes v).length : Int) == 1) = false := beq_eq_false_iff_ne.2 hlbi
            obtain ⟨ll, hll⟩ : ∃ t, t = (lenBytes v).length := ⟨_, rfl⟩
            rw [← hll] at hlbi hlb2 ⊢
            clear hr hs hlb hll
            go_wp2
            go_ret3
            exact ⟨by rw [HR.out]; rfl, HB2.out⟩
    · have d2 : decide (128 ≤ (x : Int)) = false := decide_eq_false (by omega)
      have d3 : decide (192 ≤ (x : Int)) = false := decide_eq_false (by omega)
      have HL : Hid (at' + 2 ≤ xs.length → lenAt (xs.drop at') = if lenSize (beNum (x % 64) ((xs.drop (at' + 1)).take 1)) = 2 then (beNum (x % 64) ((xs.drop (at' + 1)).take 1), 2, 0) else (0, 0, 3)) := hid fun h => by
        rw [hdr, lenAt_cons, ← hx]
        rw [if_neg (by omega), if_neg (by omega), if_pos (by omega), if_neg (by rw [List.length_drop]; omega)]
      have HE : Hid (¬ at' + 2 ≤ xs.length → lenD xs at' = (0, (at' : Int), 4)) := hid fun h => by
        have h2 : lenAt (xs.drop at') = (0, 0, 4) := by
          rw [hdr, lenAt_cons, ← hx]
          rw [if_neg (by omega), if_neg (by omega), if_pos (by omega), if_pos (by rw [List.length_drop]; omega)]
        unfold lenD; rw [h2]; rfl
      clear hdr hx

      by_cases hsl : at' + 2 ≤ xs.length
      · skip
        have hsz : ¬ (xs.length : Int) < (at' : Int) + 2 := by omega
        have hszn : at' + 2 ≤ xs.length := by omega
        have hw7 : wrap64 ((at' : Int) + 2) = (at' : Int) + 2 := wrap64_in' (by omega) (by omega)
        have HSZ := hid hszn
        clear hszn hsl
        go_wp2
        clear hm64 hc
        go_loopg [8, 9] 1 (fun r acc i wr => ∃ j : Nat, j + r = 1 ∧ acc = .int .i64 ((beNum (x % 64) ((xs.drop (at' + 1)).take j) : Nat) : Int) ∧ i = .int .i64 ((j : Int) + 1) ∧ wr = w)
        case atStart => exact ⟨0, by omega, by first | rfl | (rw [← HM.out]; rfl), rfl, rfl⟩
        case round =>
          obtain ⟨j, hj, rfl, rfl, hwr⟩ := hrel
          subst hwr
          have HJ := hid hj
          by_cases hlt : j < 1
          · have hji : (j : Int) + 1 < 2 := by omega
            have hak : at' + 1 + j < xs.length := by have := HSZ.out; omega
            obtain ⟨b2, o2, hA2, -, hc2⟩ := HA.out.byte hak
            obtain ⟨hbe, hoe⟩ : b2 = b ∧ o2 = o := by
              rw [HAE.out] at hA2
              injection hA2 with h1
              injection h1 with h1 h2
              exact ⟨h1.symm, h2.symm⟩
            subst hbe hoe
            have hst : beNum (x % 64) ((xs.drop (at' + 1)).take (j + 1)) = 256 * beNum (x % 64) ((xs.drop (at' + 1)).take j) + xs[at' + 1 + j].toNat := by
              rw [List.take_succ_eq_append_getElem (by rw [List.length_drop]; omega), beNum_append, List.getElem_drop]
              show beNum _ _ * 256 + _ = _
              omega
            have hbd : beNum (x % 64) ((xs.drop (at' + 1)).take j) < 64 * 256 ^ j := by
              have h := beNum_lt (x % 64) ((xs.drop (at' + 1)).take j)
              rw [List.length_take, List.length_drop, Nat.min_eq_left (by omega)] at h
              have h2 : (x % 64 + 1) * 256 ^ j ≤ 64 * 256 ^ j := Nat.mul_le_mul_right _ (by omega)
              omega
            have hpj : 256 ^ j ≤ 256 ^ 0 := Nat.pow_le_pow_right (by decide) (by omega)
            have hpk : 256 ^ 0 = 1 := by decide
            obtain ⟨P, hP⟩ : ∃ t, t = 256 ^ j := ⟨_, rfl⟩
            rw [← hP] at hbd hpj
            obtain ⟨y, hy⟩ : ∃ t, t = xs[at' + 1 + j].toNat := ⟨_, rfl⟩
            have hyl : y < 256 := by rw [hy]; exact UInt8.toNat_lt _
            rw [← hy] at hc2 hst
            obtain ⟨v, hv⟩ : ∃ t, t = beNum (x % 64) ((xs.drop (at' + 1)).take j) := ⟨_, rfl⟩
            rw [← hv] at hst hbd ⊢
            have HST := hid hst
            have hv4 : v < 4194304 := by rw [hpk] at hpj; clear hw7 hst; omega
            obtain ⟨hw1, hw2, hw3, hw4, hwy⟩ := step_wraps (a := at') (j := j) (v := v) (y := y) (by clear hw7; omega) (by clear hw7; omega) hv4 hyl
            have hi1 : ((at' + 1 + j : Nat) : Int) < (xs.length : Int) := by clear hw7 hw1 hw2 hw3 hw4 hwy; omega
            have hi2 : (0 : Int) ≤ ((at' + 1 + j : Nat) : Int) := by clear hw7 hw1 hw2 hw3 hw4 hwy; omega
            obtain ⟨q, hq⟩ : ∃ t, t = at' + 1 + j := ⟨_, rfl⟩
            rw [← hq] at hw1 hi1 hi2 hc2
            have HLT := hid hlt
            obtain ⟨ii, hii⟩ : ∃ t : Int, t = (j : Int) + 1 := ⟨_, rfl⟩
            rw [← hii] at hw1 hw4 hji ⊢
            have HII := hid hii
            clear hii
            clear hst hbd hpj hpk hP hy hv hyl hj hlt hak hA2 hq hv4
            go_wp2
            have hj := HJ.out; have hlt := HLT.out
            go_roundg (1 - (j + 1))
            case measure => clear hw1 hw2 hw3 hw4 hw7 hwy; omega
            case rel => exact ⟨j + 1, by clear hw1 hw2 hw3 hw4 hw7 hwy; omega, by rw [HST.out]; first | rfl | (congr 1; push_cast; omega) | (rw [hw3]; simp) | (rw [hwy, hw3]; simp), by have h := HII.out; first | (rw [hw4]; congr 1; push_cast; omega) | (congr 1; push_cast; omega), rfl⟩
          · obtain rfl : j = 1 := by omega
            have hge : ¬ (((1 : Nat) : Int) + 1 < 2) := by omega
            have hbd : beNum (x % 64) ((xs.drop (at' + 1)).take 1) < 1073741824 := by
              have h := beNum_lt (x % 64) ((xs.drop (at' + 1)).take 1)
              rw [List.length_take, List.length_drop, Nat.min_eq_left (by have := HSZ.out; omega)] at h
              have h2 : (x % 64 + 1) * 256 ^ 1 ≤ 64 * 256 ^ 1 := Nat.mul_le_mul_right _ (by omega)
              have h3 : 64 * 256 ^ 1 ≤ 1073741824 := by decide
              omega
            have HRL := hid (fun V => RefLen_any (beNum (x % 64) ((xs.drop (at' + 1)).take 1)) V hbd)
            have hw5 : wrap64 ((at' : Int) + 2) = (at' : Int) + 2 := hw7
            obtain ⟨v, hv⟩ : ∃ t, t = beNum (x % 64) ((xs.drop (at' + 1)).take 1) := ⟨_, rfl⟩
            rw [← hv] at HRL ⊢
            have HV := hid hv
            have HLB := hid (lenBytes_length v)
            clear hbd hv hj hlt
            go_wp2_with fail
            refine (HRL.out _).mono ?_
            rintro e w2 ⟨vv, rfl, ho, hg⟩
            have HB2 : Hid (Below wr.heap.size wr w2) := hid ((Below.refl _ _).grown hg (Nat.le_refl _) (fun _ h => by cases h))
            obtain ⟨A2, c2, rfl, -⟩ := own_sl ho
            clear ho hg
            by_cases hs : lenSize v = 2
            · have hr : lenD xs at' = ((v : Int), (at' : Int) + 2, 0) := by
                unfold lenD
                rw [HL.out (by have := HSZ.out; omega), ← HV.out, if_pos hs]
                simp
              have HR := hid hr
              have hlb := HLB.out
              rw [hs] at hlb
              have hlbi : ((lenBytes v).length : Int) = 2 := by omega
              rw [hlb]
              clear hr hs hlb hlbi
              go_wp2
              go_ret3
              exact ⟨by rw [HR.out]; rfl, HB2.out⟩
            · have hr : lenD xs at' = (0, (at' : Int), 3) := by
                unfold lenD
                rw [HL.out (by have := HSZ.out; omega), ← HV.out, if_neg hs]
                rfl
              have HR := hid hr
              have hlb := HLB.out
              have hlbi : ¬ ((lenBytes v).length : Int) = 2 := by omega
              have hlb2 : (((lenBytes v).length : Int) == 2) = false := beq_eq_false_iff_ne.2 hlbi
              obtain ⟨ll, hll⟩ : ∃ t, t = (lenBytes v).length := ⟨_, rfl⟩
              rw [← hll] at hlbi hlb2 ⊢
              clear hr hs hlb hll
              go_wp2
              go_ret3
              exact ⟨by rw [HR.out]; rfl, HB2.out⟩
      · have hr := HE.out hsl
        have hgt : (xs.length : Int) < (at' : Int) + 2 := by omega
        have hw7 : wrap64 ((at' : Int) + 2) = (at' : Int) + 2 := wrap64_in' (by omega) (by omega)
        have HR := hid hr
        clear hsl hr
        go_wp2
        go_ret3
        exact ⟨by rw [HR.out]; rfl, Below.refl _ _⟩
    · have d1 : 64 ≤ (x : Int) := by omega
      have d3 : decide (192 ≤ (x : Int)) = false := decide_eq_false (by omega)
      have HL : Hid (at' + 4 ≤ xs.length → lenAt (xs.drop at') = if lenSize (beNum (x % 64) ((xs.drop (at' + 1)).take 3)) = 4 then (beNum (x % 64) ((xs.drop (at' + 1)).take 3), 4, 0) else (0, 0, 3)) := hid fun h => by
        rw [hdr, lenAt_cons, ← hx]
        rw [if_neg (by omega), if_neg (by omega), if_neg (by omega), if_neg (by rw [List.length_drop]; omega)]
      have HE : Hid (¬ at' + 4 ≤ xs.length → lenD xs at' = (0, (at' : Int), 4)) := hid fun h => by
        have h2 : lenAt (xs.drop at') = (0, 0, 4) := by
          rw [hdr, lenAt_cons, ← hx]
          rw [if_neg (by omega), if_neg (by omega), if_neg (by omega), if_pos (by rw [List.length_drop]; omega)]
        unfold lenD; rw [h2]; rfl
      clear hdr hx

      by_cases hsl : at' + 4 ≤ xs.length
      · skip
        have hsz : ¬ (xs.length : Int) < (at' : Int) + 4 := by omega
        have hszn : at' + 4 ≤ xs.length := by omega
        have hw7 : wrap64 ((at' : Int) + 4) = (at' : Int) + 4 := wrap64_in' (by omega) (by omega)
        have HSZ := hid hszn
        clear hszn hsl
        go_wp2
        clear hm64 hc
        go_loopg [8, 9] 3 (fun r acc i wr => ∃ j : Nat, j + r = 3 ∧ acc = .int .i64 ((beNum (x % 64) ((xs.drop (at' + 1)).take j) : Nat) : Int) ∧ i = .int .i64 ((j : Int) + 1) ∧ wr = w)
        case atStart => exact ⟨0, by omega, by first | rfl | (rw [← HM.out]; rfl), rfl, rfl⟩
        case round =>
          obtain ⟨j, hj, rfl, rfl, hwr⟩ := hrel
          subst hwr
          have HJ := hid hj
          by_cases hlt : j < 3
          · have hji : (j : Int) + 1 < 4 := by omega
            have hak : at' + 1 + j < xs.length := by have := HSZ.out; omega
            obtain ⟨b2, o2, hA2, -, hc2⟩ := HA.out.byte hak
            obtain ⟨hbe, hoe⟩ : b2 = b ∧ o2 = o := by
              rw [HAE.out] at hA2
              injection hA2 with h1
              injection h1 with h1 h2
              exact ⟨h1.symm, h2.symm⟩
            subst hbe hoe
            have hst : beNum (x % 64) ((xs.drop (at' + 1)).take (j + 1)) = 256 * beNum (x % 64) ((xs.drop (at' + 1)).take j) + xs[at' + 1 + j].toNat := by
              rw [List.take_succ_eq_append_getElem (by rw [List.length_drop]; omega), beNum_append, List.getElem_drop]
              show beNum _ _ * 256 + _ = _
              omega
            have hbd : beNum (x % 64) ((xs.drop (at' + 1)).take j) < 64 * 256 ^ j := by
              have h := beNum_lt (x % 64) ((xs.drop (at' + 1)).take j)
              rw [List.length_take, List.length_drop, Nat.min_eq_left (by omega)] at h
              have h2 : (x % 64 + 1) * 256 ^ j ≤ 64 * 256 ^ j := Nat.mul_le_mul_right _ (by omega)
              omega
            have hpj : 256 ^ j ≤ 256 ^ 2 := Nat.pow_le_pow_right (by decide) (by omega)
            have hpk : 256 ^ 2 = 65536 := by decide
            obtain ⟨P, hP⟩ : ∃ t, t = 256 ^ j := ⟨_, rfl⟩
            rw [← hP] at hbd hpj
            obtain ⟨y, hy⟩ : ∃ t, t = xs[at' + 1 + j].toNat := ⟨_, rfl⟩
            have hyl : y < 256 := by rw [hy]; exact UInt8.toNat_lt _
            rw [← hy] at hc2 hst
            obtain ⟨v, hv⟩ : ∃ t, t = beNum (x % 64) ((xs.drop (at' + 1)).take j) := ⟨_, rfl⟩
            rw [← hv] at hst hbd ⊢
            have HST := hid hst
            have hv4 : v < 4194304 := by rw [hpk] at hpj; clear hw7 hst; omega
            obtain ⟨hw1, hw2, hw3, hw4, hwy⟩ := step_wraps (a := at') (j := j) (v := v) (y := y) (by clear hw7; omega) (by clear hw7; omega) hv4 hyl
            have hi1 : ((at' + 1 + j : Nat) : Int) < (xs.length : Int) := by clear hw7 hw1 hw2 hw3 hw4 hwy; omega
            have hi2 : (0 : Int) ≤ ((at' + 1 + j : Nat) : Int) := by clear hw7 hw1 hw2 hw3 hw4 hwy; omega
            obtain ⟨q, hq⟩ : ∃ t, t = at' + 1 + j := ⟨_, rfl⟩
            rw [← hq] at hw1 hi1 hi2 hc2
            have HLT := hid hlt
            obtain ⟨ii, hii⟩ : ∃ t : Int, t = (j : Int) + 1 := ⟨_, rfl⟩
            rw [← hii] at hw1 hw4 hji ⊢
            have HII := hid hii
            clear hii
            clear hst hbd hpj hpk hP hy hv hyl hj hlt hak hA2 hq hv4
            go_wp2
            have hj := HJ.out; have hlt := HLT.out
            go_roundg (3 - (j + 1))
            case measure => clear hw1 hw2 hw3 hw4 hw7 hwy; omega
            case rel => exact ⟨j + 1, by clear hw1 hw2 hw3 hw4 hw7 hwy; omega, by rw [HST.out]; first | rfl | (congr 1; push_cast; omega) | (rw [hw3]; simp) | (rw [hwy, hw3]; simp), by have h := HII.out; first | (rw [hw4]; congr 1; push_cast; omega) | (congr 1; push_cast; omega), rfl⟩
          · obtain rfl : j = 3 := by omega
            have hge : ¬ (((3 : Nat) : Int) + 1 < 4) := by omega
            have hbd : beNum (x % 64) ((xs.drop (at' + 1)).take 3) < 1073741824 := by
              have h := beNum_lt (x % 64) ((xs.drop (at' + 1)).take 3)
              rw [List.length_take, List.length_drop, Nat.min_eq_left (by have := HSZ.out; omega)] at h
              have h2 : (x % 64 + 1) * 256 ^ 3 ≤ 64 * 256 ^ 3 := Nat.mul_le_mul_right _ (by omega)
              have h3 : 64 * 256 ^ 3 ≤ 1073741824 := by decide
              omega
            have HRL := hid (fun V => RefLen_any (beNum (x % 64) ((xs.drop (at' + 1)).take 3)) V hbd)
            have hw5 : wrap64 ((at' : Int) + 4) = (at' : Int) + 4 := hw7
            obtain ⟨v, hv⟩ : ∃ t, t = beNum (x % 64) ((xs.drop (at' + 1)).take 3) := ⟨_, rfl⟩
            rw [← hv] at HRL ⊢
            have HV := hid hv
            have HLB := hid (lenBytes_length v)
            clear hbd hv hj hlt
            go_wp2_with fail
            refine (HRL.out _).mono ?_
            rintro e w2 ⟨vv, rfl, ho, hg⟩
            have HB2 : Hid (Below wr.heap.size wr w2) := hid ((Below.refl _ _).grown hg (Nat.le_refl _) (fun _ h => by cases h))
            obtain ⟨A2, c2, rfl, -⟩ := own_sl ho
            clear ho hg
            by_cases hs : lenSize v = 4
            · have hr : lenD xs at' = ((v : Int), (at' : Int) + 4, 0) := by
                unfold lenD
                rw [HL.out (by have := HSZ.out; omega), ← HV.out, if_pos hs]
                simp
              have HR := hid hr
              have hlb := HLB.out
              rw [hs] at hlb
              have hlbi : ((lenBytes v).length : Int) = 4 := by omega
              rw [hlb]
              clear hr hs hlb hlbi
              go_wp2
              go_ret3
              exact ⟨by rw [HR.out]; rfl, HB2.out⟩
            · have hr : lenD xs at' = (0, (at' : Int), 3) := by
                unfold lenD
                rw [HL.out (by have := HSZ.out; omega), ← HV.out, if_neg hs]
                rfl
              have HR := hid hr
              have hlb := HLB.out
              have hlbi : ¬ ((lenBytes v).length : Int) = 4 := by omega
              have hlb2 : (((lenBytes v).length : Int) == 4) = false := beq_eq_false_iff_ne.2 hlbi
              obtain ⟨ll, hll⟩ : ∃ t, t = (lenBytes v).length := ⟨_, rfl⟩
              rw [← hll] at hlbi hlb2 ⊢
              clear hr hs hlb hll
              go_wp2
              go_ret3
              exact ⟨by rw [HR.out]; rfl, HB2.out⟩
      · have hr := HE.out hsl
        have hgt : (xs.length : Int) < (at' : Int) + 4 := by omega
        have hw7 : wrap64 ((at' : Int) + 4) = (at' : Int) + 4 := wrap64_in' (by omega) (by omega)
        have HR := hid hr
        clear hsl hr
        go_wp2
        go_ret3
        exact ⟨by rw [HR.out]; rfl, Below.refl _ _⟩
    · have d1 : 64 ≤ (x : Int) := by omega
      have d2 : 128 ≤ (x : Int) := by omega
      have hr : lenD xs at' = (0, (at' : Int), 3) := by
        have h2 : lenAt (xs.drop at') = (0, 0, 3) := by
          rw [hdr, lenAt_cons, ← hx]
          rw [if_neg (by omega), if_pos (by omega)]
        unfold lenD; rw [h2]; rfl
      have HR := hid hr
      clear hr hdr hx
      go_wp2
      go_ret3
      exact ⟨by rw [HR.out]; rfl, Below.refl _ _⟩
  · have hr : lenD xs at' = (0, (at' : Int), 4) := by
      have h2 : xs.drop at' = [] := List.drop_eq_nil_of_le (by omega)
      unfold lenD; rw [h2]; rfl
    have HR := hid hr
    have hge0 : (xs.length : Int) ≤ (at' : Int) := by omega
    clear hr hlt hA
    go_enter Try.func74, Try.ntmps74
    go_wp2
    go_ret3
    exact ⟨by rw [HR.out]; rfl, Below.refl _ _⟩
end Go.Proofs.Ytlgcdddgahjknaa
end
section
namespace Go.Proofs.Ytlgcdddgahjknaa
open Go Go.RowKit
set_option linter.unusedVariables false
set_option linter.unusedSimpArgs false
/-- A vector at a place: where the next one stands. -/
def vecN (xs : List UInt8) (i : Nat) : Nat := if (vecAt (xs.drop i)).2.2 = 0 then i + (lenAt (xs.drop i)).2.1 + (lenAt (xs.drop i)).1 else i
theorem sub_wrap {L a s : Nat} (h : a + s ≤ L) (hL : L ≤ 1000000) : wrap64 ((L : Int) - ((a : Int) + (s : Int))) = (L : Int) - ((a : Int) + (s : Int)) := wrap64_in (by omega) (by omega)
theorem sum3_wrap {a s n : Nat} (h : a + s + n ≤ 1000000) : wrap64 ((a : Int) + (s : Int) + (n : Int)) = (a : Int) + (s : Int) + (n : Int) := wrap64_in' (by omega) (by omega)
theorem sub_sq {w : World} {B c : Nat} {A : Option Addr} {xs : List UInt8} (h : Sq w B A c (bvs xs)) (lo n : Nat) (hn : lo + n ≤ xs.length) : Sq w B (A.map fun x => x.add lo) (c - lo) (bvs ((xs.drop lo).take n)) := by
  by_cases h0 : n = 0
  · subst h0
    rw [List.take_zero]
    exact .inl ⟨rfl, by have := h.cap; omega⟩
  · obtain ⟨b, o, rfl, -⟩ := h.form (by rw [bvs_length]; omega)
    have hadd : (⟨b, o, none⟩ : Addr).add lo = ⟨b, o + lo, none⟩ := by unfold Addr.add; split <;> simp_all
    show Sq w B (some ((⟨b, o, none⟩ : Addr).add lo)) (c - lo) _
    rw [hadd]
    exact sq_take (sq_drop h lo (by omega)) n
set_option maxHeartbeats 2000000 in
theorem readVec_any (A : Option Addr) (xs : List UInt8) (c at' B : Nat) (w : World) (hA : Sq w B A c (bvs xs)) (hB : B ≤ w.heap.size) (hb : xs.length ≤ 1000000) (hat : at' ≤ xs.length) :
    Calls Try.prog 69 #[.slice A xs.length c, .int .i64 (at' : Int)] w fun e w' => ∃ A' c', e = .returned (.tuple #[.slice A' (vecAt (xs.drop at')).1.length c', .int .i64 (vecN xs at' : Int), .int .i64 ((vecAt (xs.drop at')).2.2 : Int)]) ∧ Sq w' B A' c' (bvs (vecAt (xs.drop at')).1) ∧ Below w.heap.size w w' := by
  have HL := hid (readLen_any A xs c at' w (hA.lie.more hB) hb hat)
  have HBB := hid hB
  have HA := hid hA
  have hcap := hA.cap
  rw [bvs_length] at hcap
  have hbd := lenAt_bounds (xs.drop at')
  unfold lenD at HL
  unfold vecN vecAt
  obtain ⟨n, hn⟩ : ∃ t, t = (lenAt (xs.drop at')).1 := ⟨_, rfl⟩
  obtain ⟨s, hs⟩ : ∃ t, t = (lenAt (xs.drop at')).2.1 := ⟨_, rfl⟩
  obtain ⟨er, her⟩ : ∃ t, t = (lenAt (xs.drop at')).2.2 := ⟨_, rfl⟩
  rw [← hn, ← hs, ← her] at hbd HL ⊢
  rw [List.length_drop] at hbd ⊢
  by_cases h0 : er = 0
  · subst h0
    rw [if_pos rfl] at HL
    rw [if_neg (by simp)]
    have hs2 := hbd.2.2.1 rfl
    by_cases hlt : xs.length - at' < s + n
    · rw [if_pos hlt]
      dsimp only
      rw [if_neg (show ¬ (4 : Nat) = 0 by decide)]
      have hgt : (xs.length : Int) - ((at' : Int) + (s : Int)) < (n : Int) := by omega
      have hw1 : wrap64 ((xs.length : Int) - ((at' : Int) + (s : Int))) = (xs.length : Int) - ((at' : Int) + (s : Int)) := sub_wrap (by clear hgt; omega) hb
      clear hn hs her hbd hs2 hlt hA hcap
      go_enter Try.func69, Try.ntmps69
      go_wp2_with fail
      refine HL.out.mono ?_
      rintro e w1 ⟨rfl, hb⟩
      have HB := hid hb
      clear hb HL
      go_wp2
      go_ret3
      exact ⟨none, 0, rfl, Sq.nil, HB.out⟩
    · rw [if_neg hlt]
      dsimp only
      rw [if_pos rfl]
      have hgt : ¬ (xs.length : Int) - ((at' : Int) + (s : Int)) < (n : Int) := by omega
      have hw1 : wrap64 ((xs.length : Int) - ((at' : Int) + (s : Int))) = (xs.length : Int) - ((at' : Int) + (s : Int)) := sub_wrap (by clear hgt; omega) hb
      have hle : at' + s + n ≤ 1000000 := by clear hw1 hgt; omega
      have hw2 : wrap64 ((at' : Int) + (s : Int) + (n : Int)) = (at' : Int) + (s : Int) + (n : Int) := sum3_wrap hle
      obtain ⟨lo, hlo⟩ : ∃ t, t = at' + s := ⟨_, rfl⟩
      have hloi : (at' : Int) + (s : Int) = (lo : Int) := by rw [hlo, Int.natCast_add]
      rw [hloi] at HL hgt hw1 hw2
      have f1 : (0 : Int) ≤ (lo : Int) := by omega
      have f2 : (lo : Int) ≤ (lo : Int) + (n : Int) := by clear hw1 hw2 hgt; omega
      have f3 : (lo : Int) + (n : Int) ≤ (c : Int) := by clear hw1 hw2 hgt; omega
      have HLO := hid hlo
      have hln : ((xs.drop lo).take n).length = n := by rw [List.length_take, List.length_drop]; clear hw1 hw2 hgt; omega
      have HS := hid (sub_sq hA lo n (by clear hw1 hw2 hgt; omega))
      have HS2 : Hid (Sq w B A (c - lo) []) := hid (hA.end_ lo)
      have HLE : Hid (lo + n ≤ xs.length ∧ lo + n ≤ c) := hid ⟨by clear hw1 hw2 hgt; omega, by clear hw1 hw2 hgt; omega⟩
      have hdl : ((xs.drop at').drop s).take n = (xs.drop lo).take n := by rw [List.drop_drop, hlo]
      have hn3 : ((at' + s + n : Nat) : Int) = (lo : Int) + (n : Int) := by clear hw1 hw2 hgt; omega
      rw [hdl, hln, hn3]
      obtain ⟨vs, hvs⟩ : ∃ t, t = (xs.drop lo).take n := ⟨_, rfl⟩
      rw [← hvs] at hln HS ⊢
      have HVL := hid hln
      clear hn hs her hbd hs2 hA hlt hloi hlo hcap hle hdl hn3 hvs hln
      go_enter Try.func69, Try.ntmps69
      go_wp2_with fail
      refine HL.out.mono ?_
      rintro e w1 ⟨rfl, hb⟩
      have HB := hid hb
      clear hb HL
      go_wp2
      · have hn0 : n = 0 := by have := HLE.out; rename_i hcl; omega
        have hv0 : vs = [] := List.eq_nil_of_length_eq_zero (by rw [HVL.out, hn0])
        go_ret3
        refine ⟨A, 0, rfl, ?_, HB.out⟩
        rw [hv0]
        exact .inl ⟨rfl, by decide⟩
      · go_ret3
        exact ⟨_, _, rfl, HS.out.below (HB.out.mono HBB.out), HB.out⟩
  · rw [if_neg h0] at HL
    rw [if_pos h0]
    dsimp only
    rw [if_neg h0]
    have hne : ¬ (er : Int) = 0 := by omega
    have hne2 : ((er : Int) != 0) = true := by rw [bne_iff_ne]; exact hne
    clear hn hs her hbd h0 hA hcap
    go_enter Try.func69, Try.ntmps69
    go_wp2_with fail
    refine HL.out.mono ?_
    rintro e w1 ⟨rfl, hb⟩
    have HB := hid hb
    clear hb HL
    go_wp2
    go_ret3
    exact ⟨none, 0, rfl, Sq.nil, HB.out⟩
end Go.Proofs.Ytlgcdddgahjknaa
end
section
namespace Go.Proofs.Ytlgcdddgahjknaa
open Go Go.RowKit
set_option linter.unusedVariables false
set_option linter.unusedSimpArgs false
abbrev ItT : TypeId := 80
abbrev itC (A : Option Addr) (n c : Nat) : Array Value := #[.int .i64 1, .int .i64 0, .int .u64 0, .slice A n c, .slice none 0 0]
abbrev itZ : Array Value := #[.int .i64 0, .int .i64 0, .int .u64 0, .slice none 0 0, .slice none 0 0]
theorem infoIt {A : Option Addr} {n c : Nat} : (Try.prog.info? ItT).map (·.size) = some (itC A n c).size := by kernel_rfl
theorem itC_one {A : Option Addr} {n c : Nat} : (itC A n c).all (·.oneCell') = true := by simp [Value.oneCell']
theorem itZ_size {A : Option Addr} {n c : Nat} : itZ.size = (itC A n c).size := rfl
/-- A box and two slots, read at the end. -/
theorem results_css {P : Program} {fn : Func} {p q r : Tmp} {ty : TypeId} (h : fn.results = #[.cell p ty, .tmp q, .tmp r]) (tmps : Array Value) (w : World) (g : Nat) (t : TypeId) (cs : Array Value) (fr : Nat × Nat) (d : TypeDesc)
    (hp : tmps.getD p undef = .pointer (some ⟨g, 0, none⟩)) (hg : w.heap[g]? = some (.cells cs t fr))
    (hu : P.underlying ty = some d) (hd : (match d with | .struct _ | .array _ _ => true | _ => false) = true) (hi : (P.info? ty).map (·.size) = some cs.size) (v u : Value) (hv : tmps.getD q undef = v) (hu2 : tmps.getD r undef = u) :
    (results fn tmps).run P w = .ok (.tuple #[.agg cs, v, u]) w := by
  have hp' : tmps[p]?.getD undef = .pointer (some ⟨g, 0, none⟩) := by simpa using hp
  have hv' : tmps[q]?.getD undef = v := by simpa using hv
  have hu' : tmps[r]?.getD undef = u := by simpa using hu2
  simp [results, h, hp', hv', hu', asAddr, run_loadVar_row w g t ty cs fr d hg hu hd hi]
set_option maxRecDepth 100000 in
set_option maxHeartbeats 2000000 in
theorem TakeV_any (A : Option Addr) (xs : List UInt8) (c at' B : Nat) (w : World) (hA : Sq w B A c (bvs xs)) (hB : B ≤ w.heap.size) (hb : xs.length ≤ 1000000) (hat : at' ≤ xs.length) :
    Calls Try.prog 57 #[.slice A xs.length c, .int .i64 (at' : Int), .agg (itC none 0 0)] w fun e w' => ∃ A' c', e = .returned (.tuple #[.agg (itC A' (vecAt (xs.drop at')).1.length c'), .int .i64 (vecN xs at' : Int), .int .i64 ((vecAt (xs.drop at')).2.2 : Int)]) ∧ Sq w' B A' c' (bvs (vecAt (xs.drop at')).1) ∧ Below w.heap.size w w' := by
  have HR : Hid (∀ W, Below w.heap.size w W → _) := hid fun W (h : Below w.heap.size w W) => readVec_any A xs c at' B W (hA.below (h.mono hB)) (Nat.le_trans hB h.size) hb hat
  have HBB := hid hB
  obtain ⟨v, hv⟩ : ∃ t, t = (vecAt (xs.drop at')).1 := ⟨_, rfl⟩
  obtain ⟨er, her⟩ : ∃ t, t = (vecAt (xs.drop at')).2.2 := ⟨_, rfl⟩
  obtain ⟨nx, hnx⟩ : ∃ t, t = vecN xs at' := ⟨_, rfl⟩
  rw [← hv, ← her, ← hnx] at HR ⊢
  clear hv her hnx hA hb hat hB
  go_enter Try.func57, Try.ntmps57
  have T := three (w := w) (.cells (itC none 0 0) ItT) (.cells itZ ItT) (.cells (itC none 0 0) ItT)
  have hB3 : Below w.heap.size w (((w.alloc (.cells (itC none 0 0) ItT)).alloc (.cells itZ ItT)).alloc (.cells (itC none 0 0) ItT)) := (((Below.refl _ _).alloc (Nat.le_refl _) _).alloc (by simp) _).alloc (by simp; omega) _
  have HB3 := hid hB3
  have K6 : Hid ((((w.alloc (.cells (itC none 0 0) ItT)).alloc (.cells itZ ItT)).alloc (.cells (itC none 0 0) ItT)).heap[w.heap.size + 1]? = some (.cells itZ ItT (0, 0))) := hid T.2.1
  have K9 : Hid ((((w.alloc (.cells (itC none 0 0) ItT)).alloc (.cells itZ ItT)).alloc (.cells (itC none 0 0) ItT)).heap[w.heap.size + 1 + 1]? = some (.cells (itC none 0 0) ItT (0, 0))) := hid T.2.2.1
  clear T hB3
  go_wp2_with fail
  refine (HR.out _ HB3.out).mono ?_
  rintro e w4 ⟨A', c', rfl, hs, hb⟩
  have HB4 := hid (HB3.out.trans (hb.mono HB3.out.size))
  have K64 := hid ((hb.block _ (block_lt K6.out)).trans K6.out)
  have K94 := hid ((hb.block _ (block_lt K9.out)).trans K9.out)
  have HS := hid hs
  clear hs hb HB3 K6 K9 HR
  have K95 : Hid ((w4.setCell ⟨w.heap.size + 1 + 1, 3, none⟩ (.slice A' v.length c')).heap[w.heap.size + 1 + 1]? = some (.cells (itC A' v.length c') ItT (0, 0))) := hid (block_set K94.out 3 _)
  have K65 : Hid ((w4.setCell ⟨w.heap.size + 1 + 1, 3, none⟩ (.slice A' v.length c')).heap[w.heap.size + 1]? = some (.cells itZ ItT (0, 0))) := hid (by rw [Below.heap_setCell _ _ _ _ (by simp)]; exact K64.out)
  have HB5 : Hid (Below w.heap.size w (w4.setCell ⟨w.heap.size + 1 + 1, 3, none⟩ (.slice A' v.length c'))) := hid (HB4.out.setCell (by simp; omega) _)
  have c3 := cell_of K94.out 3 _ rfl
  have hf3 : w4.frozen? ⟨w.heap.size + 1 + 1, 3, none⟩ = false := frozen_of_row _ _ _ _ _ K94.out
  go_wp2_with (first | (with_reducible refine wpList_load_row rfl ItT (.tmp 9) rfl (w.heap.size + 1 + 1) rfl ItT (itC A' v.length c') (0, 0) _ K95.out Try.underlying80 rfl infoIt ?_) | (with_reducible refine wpList_store_row rfl ItT (.tmp 6) _ rfl (w.heap.size + 1) (itC A' v.length c') rfl rfl ItT itZ K65.out infoIt itZ_size itC_one ?_))
  have KZ := setRow_heap _ (w.heap.size + 1) itZ (itC A' v.length c') ItT (0, 0) K65.out
  have hbz := (below_put (w4.setCell ⟨w.heap.size + 1 + 1, 3, none⟩ (.slice A' v.length c')) (w.heap.size + 1) (itC A' v.length c') (Nat.le_succ w.heap.size))
  refine bodyPost_ret (v := .tuple #[.agg (itC A' v.length c'), .int .i64 (nx : Int), .int .i64 (er : Int)]) (results_css rfl _ _ (w.heap.size + 1) ItT (itC A' v.length c') (0, 0) _ rfl KZ Try.underlying80 rfl infoIt _ _ rfl rfl) rfl ⟨A', c', rfl, ?_, HB5.out.trans hbz⟩
  have h1 : Below w.heap.size w4 (w4.setCell ⟨w.heap.size + 1 + 1, 3, none⟩ (.slice A' v.length c')) := (Below.refl _ _).setCell (by simp; omega) _
  exact HS.out.below ((h1.trans hbz).mono HBB.out)
end Go.Proofs.Ytlgcdddgahjknaa
end
section
namespace Go.Proofs.Ytlgcdddgahjknaa
open Go Go.RowKit
set_option linter.unusedVariables false
set_option linter.unusedSimpArgs false
/-- Where the j-th vector stands; its bytes; the first error of some. -/
def posD (xs : List UInt8) (i : Nat) : Nat → Nat
  | 0 => i
  | j + 1 => vecN xs (posD xs i j)
def vecJ (xs : List UInt8) (i j : Nat) : List UInt8 := (vecAt (xs.drop (posD xs i j))).1
def errJ (xs : List UInt8) (i j : Nat) : Nat := (vecAt (xs.drop (posD xs i j))).2.2
def errD (xs : List UInt8) (i : Nat) : Nat → Nat
  | 0 => 0
  | j + 1 => if errD xs i j = 0 then errJ xs i j else errD xs i j
def vecsD (xs : List UInt8) (i n : Nat) : List (List UInt8) := (List.range n).map (vecJ xs i)
theorem vecN_le {xs : List UInt8} {i : Nat} (h : i ≤ xs.length) : vecN xs i ≤ xs.length := by
  unfold vecN
  split
  · next h0 =>
    unfold vecAt at h0
    split at h0
    · next h1 => exact absurd h0 h1
    · split at h0
      · cases h0
      · next h1 h2 => rw [List.length_drop] at h2; omega
  · exact h
theorem posD_le {xs : List UInt8} {i : Nat} (h : i ≤ xs.length) (j : Nat) : posD xs i j ≤ xs.length := by
  induction j with
  | zero => exact h
  | succ j ih => exact vecN_le ih
theorem errD_stays {xs : List UInt8} {i j : Nat} (h : errD xs i j ≠ 0) (k : Nat) : errD xs i (j + k) = errD xs i j := by
  induction k with
  | zero => rfl
  | succ k ih =>
    show errD xs i ((j + k) + 1) = _
    rw [errD, ih, if_neg h]
theorem vecsD_step (xs : List UInt8) (i j : Nat) : vecsD xs i (j + 1) = vecsD xs i j ++ [vecJ xs i j] := by unfold vecsD; rw [List.range_succ, List.map_append, List.map_singleton]
/-- Slices that read as lists of bytes, in memory below B. -/
def RowsAt (w : World) (B : Nat) (vs : List Value) (ls : List (List UInt8)) : Prop := vs.length = ls.length ∧ ∀ (j : Nat) (x : List UInt8), ls[j]? = some x → ∃ A c, vs[j]? = some (Value.slice A x.length c) ∧ Sq w B A c (bvs x)
theorem RowsAt.on {w w' : World} {B : Nat} {vs : List Value} {ls : List (List UInt8)} (h : RowsAt w B vs ls) (hb : Below B w w') : RowsAt w' B vs ls := ⟨h.1, fun j x hx => by obtain ⟨A, c, h1, h2⟩ := h.2 j x hx; exact ⟨A, c, h1, h2.below hb⟩⟩
theorem RowsAt.snoc {w : World} {B : Nat} {vs : List Value} {ls : List (List UInt8)} (h : RowsAt w B vs ls) {A : Option Addr} {c : Nat} {x : List UInt8} (hx : Sq w B A c (bvs x)) : RowsAt w B (vs ++ [Value.slice A x.length c]) (ls ++ [x]) := by
  refine ⟨by rw [List.length_append, List.length_append, h.1, List.length_singleton, List.length_singleton], fun j y hy => ?_⟩
  rw [List.getElem?_append] at hy ⊢
  rw [h.1]
  split at hy
  · next hj => rw [if_pos hj]; exact h.2 j y hy
  · next hj =>
    rw [if_neg hj]
    rw [List.getElem?_singleton] at hy ⊢
    split at hy
    · next h0 => rw [if_pos h0]; injection hy with hy; subst hy; exact ⟨A, c, rfl, hx⟩
    · cases hy
theorem infoSlB : (Try.prog.info? 22).map (fun i => (i.zero, i.size, i.bytes)) = some (some (.slice none 0 0), 1, 24) := by kernel_rfl
theorem build_it (W : World) : (Instr.build ItT #[(0, .int .i64 1)]).run Try.prog W = .ok (.agg (itC none 0 0)) W := run_build W ItT _ _ (by kernel_rfl)
set_option maxRecDepth 100000 in
set_option maxHeartbeats 4000000 in
theorem vecs16 (A : Option Addr) (xs : List UInt8) (c at' n B : Nat) (w : World) (hA : Sq w B A c (bvs xs)) (hB : B ≤ w.heap.size) (hb : xs.length ≤ 1000000) (hat : at' ≤ xs.length) (hn : n ≤ 1000) :
    Calls Try.prog 39 #[.slice A xs.length c, .int .i64 (at' : Int), .int .i64 (n : Int)] w fun e w' =>
      (errD xs at' n = 0 ∧ ∃ v vs, e = .returned (.tuple #[v, .int .i64 (posD xs at' n : Int), .int .i64 0]) ∧ w'.ownsRow w.heap.size 22 1 v n vs ∧ RowsAt w' B vs (vecsD xs at' n) ∧ Below w.heap.size w w') ∨
      (errD xs at' n ≠ 0 ∧ ∃ z : Int, e = .returned (.tuple #[.slice none 0 0, .int .i64 z, .int .i64 (errD xs at' n : Int)]) ∧ Below w.heap.size w w') := by
  have HT : Hid (∀ j W, Below w.heap.size w W → _) := hid fun j W (h : Below w.heap.size w W) => TakeV_any A xs c (posD xs at' j) B W (hA.below (h.mono hB)) (Nat.le_trans hB h.size) hb (posD_le hat j)
  have HN := hid hn
  have HPL := hid (fun j => posD_le hat j)
  have HXB := hid hb; have HBB := hid hB
  clear hA hb hat hn hB
  go_enter Try.func39, Try.ntmps39
  go_wp2
  go_loopg [1, 9, 10] n (fun r p acc i wr => ∃ (j : Nat) (vs : List Value), j + r = n ∧ p = .int .i64 (posD xs at' j : Int) ∧ i = .int .i64 (j : Int) ∧ errD xs at' j = 0 ∧ wr.ownsRow w.heap.size 22 1 acc j vs ∧ RowsAt wr B vs (vecsD xs at' j) ∧ Below w.heap.size w wr)
  case atStart => exact ⟨0, [], by omega, rfl, rfl, rfl, World.ownsRow_nil _ _ _ _, ⟨rfl, fun j x hx => by simp [vecsD] at hx⟩, Below.refl _ _⟩
  case round =>
    obtain ⟨j, vs, hj, rfl, rfl, he, ho, hr, hb⟩ := hrel
    obtain ⟨A9, c9, rfl, -⟩ := own_sl ho
    have HJ := hid hj; have HE := hid he; have HO := hid ho; have HR := hid hr; have HB := hid hb
    clear he ho hr hb
    by_cases hlt : j < n
    · have hji : (j : Int) < (n : Int) := by omega
      have hwj : wrap64 ((j : Int) + 1) = (j : Int) + 1 := wrap64_in' (by omega) (by have := HN.out; omega)
      have HTj := hid (HT.out j wr HB.out)
      have HES : Hid (errD xs at' (j + 1) = (vecAt (xs.drop (posD xs at' j))).2.2) := hid (by show (if errD xs at' j = 0 then _ else _) = _; rw [if_pos HE.out]; rfl)
      have HVS : Hid (vecsD xs at' (j + 1) = vecsD xs at' j ++ [(vecAt (xs.drop (posD xs at' j))).1]) := hid (vecsD_step xs at' j)
      have HPS : Hid (posD xs at' (j + 1) = vecN xs (posD xs at' j)) := hid rfl
      obtain ⟨x, hx⟩ : ∃ t, t = (vecAt (xs.drop (posD xs at' j))).1 := ⟨_, rfl⟩
      obtain ⟨er, her⟩ : ∃ t, t = (vecAt (xs.drop (posD xs at' j))).2.2 := ⟨_, rfl⟩
      obtain ⟨nx, hnx⟩ : ∃ t, t = vecN xs (posD xs at' j) := ⟨_, rfl⟩
      rw [← hx, ← her, ← hnx] at HTj
      rw [← hx] at HVS
      rw [← her] at HES
      rw [← hnx] at HPS
      obtain ⟨pj, hpj⟩ : ∃ t, t = posD xs at' j := ⟨_, rfl⟩
      rw [← hpj] at HTj ⊢
      have hbuild := build_it
      have HLT := hid hlt
      clear hx her hnx hpj hj hlt
      go_wp2_with fail
      refine HTj.out.mono ?_
      rintro e w2 ⟨A2, c2, rfl, hs, hb⟩
      have HB2 := hid (HB.out.trans (hb.mono HB.out.size))
      have HO2 : Hid (w2.ownsRow w.heap.size 22 1 (.slice A9 j c9) j vs) := hid (World.ownsRow.kept (row := none) HO.out ⟨hb.os, hb.tape, hb.output, hb.size, fun k hk _ => hb.block k hk⟩ (by cases hv : (Value.slice A9 j c9).ownBlock <;> simp))
      have HR2 := hid (HR.out.on (hb.mono (Nat.le_trans HBB.out HB.out.size)))
      have HS := hid hs
      clear hs hb HB HO HR HTj
      have K1 : Hid ((w2.alloc (.cells (itC A2 x.length c2) ItT)).heap[w2.heap.size]? = some (.cells (itC A2 x.length c2) ItT (0, 0))) := hid (heap_alloc_new w2 _)
      have HB3 : Hid (Below w.heap.size w (w2.alloc (.cells (itC A2 x.length c2) ItT))) := hid (HB2.out.alloc HB2.out.size _)
      by_cases h0 : er = 0
      · subst h0
        have c3 := cell_of K1.out 3 _ rfl
        have c3' : (w2.alloc (.cells (itC A2 x.length c2) ItT)).cell? ⟨w2.heap.size, 3, none⟩ = some (.slice A2 x.length c2) := c3
        have HO3 : Hid (((w2.alloc (.cells (itC A2 x.length c2) ItT)).alloc (.cells #[.slice A2 x.length c2] 22)).ownsRow w.heap.size 22 1 (.slice A9 j c9) j vs) := hid (World.ownsRow.alloc (World.ownsRow.alloc HO2.out _) _)
        have HBZ : Hid (Below w.heap.size w ((w2.alloc (.cells (itC A2 x.length c2) ItT)).alloc (.cells #[.slice A2 x.length c2] 22))) := hid (HB3.out.alloc HB3.out.size _)
        have HL1 : Hid (Lie ((w2.alloc (.cells (itC A2 x.length c2) ItT)).alloc (.cells #[.slice A2 x.length c2] 22)) (w2.heap.size + 1 + 1) (some ⟨w2.heap.size + 1, 0, none⟩) [.slice A2 x.length c2]) := hid (by
          have h := Lie.new1 (w2.alloc (.cells (itC A2 x.length c2) ItT)) (.slice A2 x.length c2) 22
          rw [show (w2.alloc (.cells (itC A2 x.length c2) ItT)).heap.size = w2.heap.size + 1 from Array.size_push ..] at h
          exact h)
        clear c3
        go_wp2_with (at_builtin; go_loud (refine wpList_append_lie rfl _ _ 57 rfl w.heap.size 22 (.slice none 0 0) 24 Try.underlying57 infoSlB rfl rfl HO3.out rfl rfl HL1.out ?d0 ?d1 ?d2 ?d3 ?_))
        case d0 => intro u' hu; simp at hu; subst hu; rfl
        case d1 => have := HN.out; have := HLT.out; unfold maxLen; simp; omega
        case d2 => have := HN.out; have := HLT.out; simp; omega
        case d3 => exact HBZ.out.size
        intro v5 w5 hown5 hg5 _
        have HO5 := hid hown5
        have HB5 : Hid (Below w.heap.size w w5) := hid (HBZ.out.grown hg5 HBZ.out.size (own_lt HO3.out))
        have hbz : Below w.heap.size w2 w5 := (((Below.refl w2.heap.size w2).alloc (Nat.le_refl _) _).alloc (by simp) _).mono HB2.out.size |>.trans ((Below.refl _ _).grown hg5 HBZ.out.size (own_lt HO3.out))
        have HR5 : Hid (RowsAt w5 B (vs ++ [Value.slice A2 x.length c2]) (vecsD xs at' (j + 1))) := hid (by rw [HVS.out]; exact (HR2.out.on (hbz.mono HBB.out)).snoc (HS.out.below (hbz.mono HBB.out)))
        clear hown5 hg5 hbz HO3 HBZ
        go_wp2
        have hj := HJ.out; have hlt := HLT.out
        go_roundg (n - (j + 1))
        case measure => clear hwj; omega
        case rel => exact ⟨j + 1, vs ++ [Value.slice A2 x.length c2], by clear hwj; omega, by rw [HPS.out], by first | rfl | (rw [hwj]; rfl), HES.out, HO5.out, HR5.out, HB5.out⟩
      · have hne : ¬ (er : Int) = 0 := by omega
        have hne2 : ((er : Int) != 0) = true := by rw [bne_iff_ne]; exact hne
        have hfin : errD xs at' n = er := by
          have h2 : errD xs at' (j + 1) ≠ 0 := by rw [HES.out]; exact h0
          have h3 := errD_stays h2 (n - (j + 1))
          rw [show j + 1 + (n - (j + 1)) = n by have := HLT.out; omega, HES.out] at h3
          exact h3
        have HF := hid hfin; have H0 := hid h0
        clear h0 hfin
        go_wp2
        go_ret3
        exact .inr ⟨by rw [HF.out]; exact H0.out, _, by rw [HF.out]; rfl, HB3.out⟩
    · have hge : ¬ (j : Int) < (n : Int) := by omega
      obtain rfl : j = n := by omega
      clear hj hlt
      go_wp2
      go_ret3
      exact .inl ⟨HE.out, _, rfl, vs, HO.out, HR.out, HB.out⟩
end Go.Proofs.Ytlgcdddgahjknaa
end
