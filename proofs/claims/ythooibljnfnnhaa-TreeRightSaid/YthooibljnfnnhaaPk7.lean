/-
  Texts of this claim in one file: Ref16a, Ref16b, Ref16c, Ref16d, Ref16e, Ref16i, Ref16k, Ref16l, Ref16m, Ref16g.
-/
import Derived.Test.YthooibljnfnnhaaPk3
import Derived.Test.YthooibljnfnnhaaPk5
import Derived.Test.YthooibljnfnnhaaPk6
import Derived.Test.YthooibljnfnnhaaPk28
import Derived.Great.Walk
import Derived.Deep.MidRow
import Derived.Test.YthooibljnfnnhaaPk8
import Derived.Test.YthooibljnfnnhaaPk2
import Derived.Test.YthooibljnfnnhaaPk25
import Derived.Deep.RegionHeld3
import Derived.Test.YthooibljnfnnhaaPk9
section
namespace Go.Proofs.Ythooibljnfnnhaa
open Go Go.RowKit
set_option linter.unusedVariables false
set_option linter.unusedSimpArgs false
set_option maxHeartbeats 800000 in
theorem Same14Z_any (A : Option Addr) (xs : List Int) (c : Nat) (A' : Option Addr) (ys : List Int) (c' : Nat) (w : World) (B B' : Nat) (hA : Lie w B A (izs xs)) (hA' : Lie w B' A' (izs ys)) (hm : xs.length ≤ 140737488355328) :
    Calls Try.prog 15 #[.slice A xs.length c, .slice A' ys.length c'] w fun e w' => e = .returned (.bool (xs == ys)) ∧ ∃ n, w' = w.drewN n := by
  by_cases hl : xs.length = ys.length
  · have hl2 : ((xs.length : Int) != (ys.length : Int)) = false := by simp [hl]
    have HL := hid hl
    clear hl
    go_enter Try.func15, Try.ntmps15
    go_wp2
    go_loopg [5] xs.length (fun g i wr => ∃ k n : Nat, k + g = xs.length ∧ i = .int .i64 (k : Int) ∧ xs.take k = ys.take k ∧ wr = w.drewN n)
    case atStart => exact ⟨0, 0, by omega, rfl, rfl, rfl⟩
    case round =>
      obtain ⟨k, n, hk, rfl, ht, rfl⟩ := hrel
      have HT := hid ht
      have HK := hid hk
      clear ht hk
      by_cases hlt : k < xs.length
      · have hlt2 : k < ys.length := by rw [← HL.out]; exact hlt
        obtain ⟨b, o, rfl, hb, hc⟩ := hA.numZ hlt
        obtain ⟨b', o', rfl, hb', hc'⟩ := hA'.numZ hlt2
        have hx : (k : Int) < (xs.length : Int) := by omega
        have hy : (k : Int) < (ys.length : Int) := by omega
        have h0 : (0 : Int) ≤ (k : Int) := by omega
        have hstep := hid (take_eq_step xs ys k hlt hlt2 HT.out)
        by_cases he : xs[k] = ys[k]
        · have he2 : (xs[k] != ys[k]) = false := by simp [he]
          have HE := hid he
          clear he
          go_wp2
          go_quiet (fail)
          go_wp2
          have hk := HK.out
          go_roundg (gk - 1)
          case measure => omega
          case rel => exact ⟨k + 1, _, by omega, by go_num, hstep.out.2 HE.out, rfl⟩
        · have he2 : (xs[k] != ys[k]) = true := by rw [bne_iff_ne]; omega
          have HE := hid he
          have HF : Hid ((xs == ys) = false) := hid (by
            rw [beq_eq_false_iff_ne]
            intro e
            subst e
            exact he rfl)
          clear he
          go_wp2
          go_quiet (fail)
          go_wp2
          go_ret
          exact ⟨by rw [HF.out]; rfl, _, World.drewN_drewN _ _ _⟩
      · have hk := HK.out
        obtain rfl : k = xs.length := by omega
        have HF : Hid ((xs == ys) = true) := hid (by
          have h := HT.out
          rw [List.take_length, HL.out, List.take_length] at h
          rw [beq_iff_eq]; exact h)
        clear hk
        go_wp2
        go_ret
        exact ⟨by rw [HF.out]; rfl, _, rfl⟩
  · have hl2 : ((xs.length : Int) != (ys.length : Int)) = true := by rw [bne_iff_ne]; omega
    have HF : Hid ((xs == ys) = false) := hid (by
      rw [beq_eq_false_iff_ne]
      intro e
      subst e
      exact hl rfl)
    clear hl
    go_enter Try.func15, Try.ntmps15
    go_wp2
    go_ret
    exact ⟨by rw [HF.out]; rfl, 0, rfl⟩
/-- A leaf's, a node's contents; where their bytes lie. -/
structure Lf where
  box : List UInt8
  sign : List UInt8
  ident : List UInt8
  src : Nat
  par : List UInt8
  sig : List UInt8
structure LA where
  a0 : Option Addr
  a1 : Option Addr
  a2 : Option Addr
  a3 : Option Addr
  a4 : Option Addr
  c0 : Nat
  c1 : Nat
  c2 : Nat
  c3 : Nat
  c4 : Nat
structure Pnt where
  box : List UInt8
  hash : List UInt8
  late : List Int
structure PA where
  a0 : Option Addr
  a1 : Option Addr
  a2 : Option Addr
  c0 : Nat
  c1 : Nat
  c2 : Nat
abbrev LfT : TypeId := 27
abbrev PrT : TypeId := 36
abbrev NdT : TypeId := 38
abbrev lfV (x : Lf) (a : LA) : Array Value := #[.slice a.a0 x.box.length a.c0, .slice a.a1 x.sign.length a.c1, .slice a.a2 x.ident.length a.c2, .int .u8 (x.src : Int), .slice a.a3 x.par.length a.c3, .slice a.a4 x.sig.length a.c4]
abbrev prV (x : Pnt) (a : PA) : Array Value := #[.slice a.a0 x.box.length a.c0, .slice a.a1 x.hash.length a.c1, .slice a.a2 x.late.length a.c2]
abbrev ndV (k : Nat) (x : Lf) (a : LA) (y : Pnt) (b : PA) : Array Value := #[.int .u8 (k : Int), .slice a.a0 x.box.length a.c0, .slice a.a1 x.sign.length a.c1, .slice a.a2 x.ident.length a.c2, .int .u8 (x.src : Int), .slice a.a3 x.par.length a.c3, .slice a.a4 x.sig.length a.c4, .slice b.a0 y.box.length b.c0, .slice b.a1 y.hash.length b.c1, .slice b.a2 y.late.length b.c2]
/-- It lies in memory. -/
def LfIn (w : World) (x : Lf) (a : LA) : Prop := Lie w w.heap.size a.a0 (bvs x.box) ∧ Lie w w.heap.size a.a1 (bvs x.sign) ∧ Lie w w.heap.size a.a2 (bvs x.ident) ∧ Lie w w.heap.size a.a3 (bvs x.par) ∧ Lie w w.heap.size a.a4 (bvs x.sig)
def PrIn (w : World) (y : Pnt) (b : PA) : Prop := Lie w w.heap.size b.a0 (bvs y.box) ∧ Lie w w.heap.size b.a1 (bvs y.hash) ∧ Lie w w.heap.size b.a2 (izs y.late)
theorem lie_on {w w' : World} {A : Option Addr} {xs : List Value} (h : Lie w w.heap.size A xs) (hb : Below w.heap.size w w') : Lie w' w'.heap.size A xs := (h.below hb).more hb.size
theorem LfIn.on {w w' : World} {x : Lf} {a : LA} (h : LfIn w x a) (hb : Below w.heap.size w w') : LfIn w' x a := ⟨lie_on h.1 hb, lie_on h.2.1 hb, lie_on h.2.2.1 hb, lie_on h.2.2.2.1 hb, lie_on h.2.2.2.2 hb⟩
theorem PrIn.on {w w' : World} {x : Pnt} {a : PA} (h : PrIn w x a) (hb : Below w.heap.size w w') : PrIn w' x a := ⟨lie_on h.1 hb, lie_on h.2.1 hb, lie_on h.2.2 hb⟩
/-- No more than is looked at. -/
def LfLe (x : Lf) : Prop := x.box.length ≤ 140737488355328 ∧ x.sign.length ≤ 140737488355328 ∧ x.ident.length ≤ 140737488355328 ∧ x.par.length ≤ 140737488355328 ∧ x.sig.length ≤ 140737488355328 ∧ x.src < 256
def PrLe (y : Pnt) : Prop := y.box.length ≤ 140737488355328 ∧ y.hash.length ≤ 140737488355328 ∧ y.late.length ≤ 140737488355328
theorem infoLf {x : Lf} {a : LA} : (Try.prog.info? LfT).map (·.size) = some (lfV x a).size := by kernel_rfl
theorem infoPr {y : Pnt} {b : PA} : (Try.prog.info? PrT).map (·.size) = some (prV y b).size := by kernel_rfl
theorem infoNd16 {k : Nat} {x : Lf} {a : LA} {y : Pnt} {b : PA} : (Try.prog.info? NdT).map (·.size) = some (ndV k x a y b).size := by kernel_rfl
def leafN (b s i r p g : Nat) : Bool := decide (b = 32) && decide (s = 32) && decide (0 < i) && decide (i ≤ 64) && decide (0 < r) && decide (r < 4) && (decide (p = 0) || (decide (r = 3) && decide (p = 32))) && decide (g = 64)
def leafB (x : Lf) : Bool := leafN x.box.length x.sign.length x.ident.length x.src x.par.length x.sig.length
set_option maxHeartbeats 2000000 in
theorem RightLeaf16_gen (A0 A1 A2 A3 A4 : Option Addr) (b s i r p g k0 k1 k2 k3 k4 : Nat) (w : World) (hr : r < 256) :
    Calls Try.prog 20 #[.agg #[.slice A0 b k0, .slice A1 s k1, .slice A2 i k2, .int .u8 (r : Int), .slice A3 p k3, .slice A4 g k4]] w (RetB w (leafN b s i r p g)) := by
  have H1 := hid (heap_alloc_new w (.cells #[.slice A0 b k0, .slice A1 s k1, .slice A2 i k2, .int .u8 (r : Int), .slice A3 p k3, .slice A4 g k4] LfT))
  have c0 := cell_of H1.out 0 _ rfl; have c1 := cell_of H1.out 1 _ rfl; have c2 := cell_of H1.out 2 _ rfl; have c3 := cell_of H1.out 3 _ rfl; have c4 := cell_of H1.out 4 _ rfl; have c5 := cell_of H1.out 5 _ rfl
  go_enter Try.func20, Try.ntmps20
  go_wp2
  all_goals (go_ret; refine ⟨congrArg (fun b => Ending.returned (.bool b)) ?_, (Below.refl _ _).alloc (Nat.le_refl _) _⟩; clear c0 c1 c2 c3 c4 c5 H1; show (_ : Bool) = _; rw [Bool.eq_iff_iff]; simp [leafN]; try omega)
theorem RightLeaf16_any (x : Lf) (a : LA) (w : World) (hr : x.src < 256) : Calls Try.prog 20 #[.agg (lfV x a)] w (RetB w (leafB x)) := RightLeaf16_gen _ _ _ _ _ _ _ _ _ _ _ _ _ _ _ _ w hr
def sameLf (x y : Lf) : Bool := x.box == y.box && x.sign == y.sign && x.ident == y.ident && x.src == y.src && x.par == y.par && x.sig == y.sig
theorem SameB (A : Option Addr) (xs : List UInt8) (c : Nat) (A2 : Option Addr) (ys : List UInt8) (c2 : Nat) (W : World) (h1 : Lie W W.heap.size A (bvs xs)) (h2 : Lie W W.heap.size A2 (bvs ys)) (h3 : xs.length ≤ 140737488355328) :
    Calls Try.prog 45 #[.slice A xs.length c, .slice A2 ys.length c2] W (RetB W (xs == ys)) := (Same_any A xs c A2 ys c2 W _ _ h1 h2 h3).mono fun e w2 ⟨he, m, hm⟩ => ⟨he, by rw [hm]; exact belowB_drewN (Below.refl _ _) m⟩
theorem SameZ (A : Option Addr) (xs : List Int) (c : Nat) (A2 : Option Addr) (ys : List Int) (c2 : Nat) (W : World) (h1 : Lie W W.heap.size A (izs xs)) (h2 : Lie W W.heap.size A2 (izs ys)) (h3 : xs.length ≤ 140737488355328) :
    Calls Try.prog 15 #[.slice A xs.length c, .slice A2 ys.length c2] W (RetB W (xs == ys)) := (Same14Z_any A xs c A2 ys c2 W _ _ h1 h2 h3).mono fun e w2 ⟨he, m, hm⟩ => ⟨he, by rw [hm]; exact belowB_drewN (Below.refl _ _) m⟩
set_option maxHeartbeats 2000000 in
theorem SameLeaf16_any (x y : Lf) (a b : LA) (w : World) (hx : LfIn w x a) (hy : LfIn w y b) (hl : LfLe x) : Calls Try.prog 14 #[.agg (lfV x a), .agg (lfV y b)] w (RetB w (sameLf x y)) := by
  have K1 : Hid (((w.alloc (.cells (lfV x a) LfT)).alloc (.cells (lfV y b) LfT)).heap[w.heap.size]? = some (.cells (lfV x a) LfT (0, 0))) := hid ((Below.heap_alloc _ _ w.heap.size (by simp)).trans (heap_alloc_new w (.cells (lfV x a) LfT)))
  have K2 : Hid (((w.alloc (.cells (lfV x a) LfT)).alloc (.cells (lfV y b) LfT)).heap[w.heap.size + 1]? = some (.cells (lfV y b) LfT (0, 0))) := hid (by have h := heap_alloc_new (w.alloc (.cells (lfV x a) LfT)) (.cells (lfV y b) LfT); simpa using h)
  have HB : Hid (Below w.heap.size w ((w.alloc (.cells (lfV x a) LfT)).alloc (.cells (lfV y b) LfT))) := hid (((Below.refl _ _).alloc (Nat.le_refl _) _).alloc (by simp) _)
  have HX := hid (hx.on HB.out); have HY := hid (hy.on HB.out)
  have HC1 : Hid (∀ W : World, LfIn W x a → LfIn W y b → Calls Try.prog 45 #[.slice a.a0 x.box.length a.c0, .slice b.a0 y.box.length b.c0] W (RetB W (x.box == y.box))) := hid fun W h1 h2 => SameB _ _ _ _ _ _ W h1.1 h2.1 hl.1
  have HC2 : Hid (∀ W : World, LfIn W x a → LfIn W y b → Calls Try.prog 45 #[.slice a.a1 x.sign.length a.c1, .slice b.a1 y.sign.length b.c1] W (RetB W (x.sign == y.sign))) := hid fun W h1 h2 => SameB _ _ _ _ _ _ W h1.2.1 h2.2.1 hl.2.1
  have HC3 : Hid (∀ W : World, LfIn W x a → LfIn W y b → Calls Try.prog 45 #[.slice a.a2 x.ident.length a.c2, .slice b.a2 y.ident.length b.c2] W (RetB W (x.ident == y.ident))) := hid fun W h1 h2 => SameB _ _ _ _ _ _ W h1.2.2.1 h2.2.2.1 hl.2.2.1
  have HC4 : Hid (∀ W : World, LfIn W x a → LfIn W y b → Calls Try.prog 45 #[.slice a.a3 x.par.length a.c3, .slice b.a3 y.par.length b.c3] W (RetB W (x.par == y.par))) := hid fun W h1 h2 => SameB _ _ _ _ _ _ W h1.2.2.2.1 h2.2.2.2.1 hl.2.2.2.1
  have HC5 : Hid (∀ W : World, LfIn W x a → LfIn W y b → Calls Try.prog 45 #[.slice a.a4 x.sig.length a.c4, .slice b.a4 y.sig.length b.c4] W (RetB W (x.sig == y.sig))) := hid fun W h1 h2 => SameB _ _ _ _ _ _ W h1.2.2.2.2 h2.2.2.2.2 hl.2.2.2.2.1
  have HS : Hid (sameLf x y = (x.box == y.box && x.sign == y.sign && x.ident == y.ident && x.src == y.src && x.par == y.par && x.sig == y.sig)) := hid rfl
  obtain ⟨r, hrr⟩ : ∃ t, t = sameLf x y := ⟨_, rfl⟩
  rw [← hrr] at HS ⊢
  obtain ⟨q1, hq1⟩ : ∃ t, t = (x.box == y.box) := ⟨_, rfl⟩
  rw [← hq1] at HC1 HS
  obtain ⟨q2, hq2⟩ : ∃ t, t = (x.sign == y.sign) := ⟨_, rfl⟩
  rw [← hq2] at HC2 HS
  obtain ⟨q3, hq3⟩ : ∃ t, t = (x.ident == y.ident) := ⟨_, rfl⟩
  rw [← hq3] at HC3 HS
  obtain ⟨q4, hq4⟩ : ∃ t, t = (x.par == y.par) := ⟨_, rfl⟩
  rw [← hq4] at HC4 HS
  obtain ⟨q5, hq5⟩ : ∃ t, t = (x.sig == y.sig) := ⟨_, rfl⟩
  rw [← hq5] at HC5 HS
  have hsi : ((x.src : Int) == (y.src : Int)) = (x.src == y.src) := by rw [Bool.eq_iff_iff, beq_iff_eq, beq_iff_eq]; omega
  obtain ⟨q6, hq6⟩ : ∃ t, t = (x.src == y.src) := ⟨_, rfl⟩
  rw [← hq6] at hsi HS
  clear hrr hx hy hl hq1 hq2 hq3 hq4 hq5 hq6
  go_enter Try.func14, Try.ntmps14
  have c1 := cell_of K1.out 0 _ rfl; have c2 := cell_of K2.out 0 _ rfl
  go_wp2_with fail
  refine (HC1.out _ HX.out HY.out).mono ?_
  rintro e w1 ⟨rfl, hb⟩
  have HX2 := hid (HX.out.on hb); have HY2 := hid (HY.out.on hb); have HB2 := hid (HB.out.trans (hb.mono HB.out.size))
  have K12 := hid ((hb.block _ (block_lt K1.out)).trans K1.out); have K22 := hid ((hb.block _ (block_lt K2.out)).trans K2.out)
  clear hb HX HY HB K1 K2 c1 c2 HC1
  have HX := HX2; have HY := HY2; have HB := HB2; have K1 := K12; have K2 := K22
  clear HX2 HY2 HB2 K12 K22
  cases q1 with
  | false =>
    go_wp2
    go_ret
    exact ⟨by rw [HS.out]; rfl, HB.out⟩
  | true =>
    have c1 := cell_of K1.out 1 _ rfl; have c2 := cell_of K2.out 1 _ rfl
    go_wp2_with fail
    refine (HC2.out _ HX.out HY.out).mono ?_
    rintro e w2 ⟨rfl, hb⟩
    have HX2 := hid (HX.out.on hb); have HY2 := hid (HY.out.on hb); have HB2 := hid (HB.out.trans (hb.mono HB.out.size))
    have K12 := hid ((hb.block _ (block_lt K1.out)).trans K1.out); have K22 := hid ((hb.block _ (block_lt K2.out)).trans K2.out)
    clear hb HX HY HB K1 K2 c1 c2 HC2
    have HX := HX2; have HY := HY2; have HB := HB2; have K1 := K12; have K2 := K22
    clear HX2 HY2 HB2 K12 K22
    cases q2 with
    | false =>
      go_wp2
      go_ret
      exact ⟨by rw [HS.out]; rfl, HB.out⟩
    | true =>
      have c1 := cell_of K1.out 2 _ rfl; have c2 := cell_of K2.out 2 _ rfl
      go_wp2_with fail
      refine (HC3.out _ HX.out HY.out).mono ?_
      rintro e w3 ⟨rfl, hb⟩
      have HX2 := hid (HX.out.on hb); have HY2 := hid (HY.out.on hb); have HB2 := hid (HB.out.trans (hb.mono HB.out.size))
      have K12 := hid ((hb.block _ (block_lt K1.out)).trans K1.out); have K22 := hid ((hb.block _ (block_lt K2.out)).trans K2.out)
      clear hb HX HY HB K1 K2 c1 c2 HC3
      have HX := HX2; have HY := HY2; have HB := HB2; have K1 := K12; have K2 := K22
      clear HX2 HY2 HB2 K12 K22
      cases q3 with
      | false =>
        have c3 := cell_of K1.out 3 _ rfl; have c4 := cell_of K2.out 3 _ rfl
        go_wp2
        go_ret
        exact ⟨by rw [HS.out]; rfl, HB.out⟩
      | true =>
        cases q6 with
        | false =>
          have c3 := cell_of K1.out 3 _ rfl; have c4 := cell_of K2.out 3 _ rfl
          go_wp2
          go_ret
          exact ⟨by rw [HS.out]; rfl, HB.out⟩
        | true =>
          have c1 := cell_of K1.out 4 _ rfl; have c2 := cell_of K2.out 4 _ rfl; have c3 := cell_of K1.out 3 _ rfl; have c4 := cell_of K2.out 3 _ rfl
          go_wp2_with fail
          refine (HC4.out _ HX.out HY.out).mono ?_
          rintro e w4 ⟨rfl, hb⟩
          have HX2 := hid (HX.out.on hb); have HY2 := hid (HY.out.on hb); have HB2 := hid (HB.out.trans (hb.mono HB.out.size))
          have K12 := hid ((hb.block _ (block_lt K1.out)).trans K1.out); have K22 := hid ((hb.block _ (block_lt K2.out)).trans K2.out)
          clear hb HX HY HB K1 K2 c1 c2 HC4 c3 c4
          have HX := HX2; have HY := HY2; have HB := HB2; have K1 := K12; have K2 := K22
          clear HX2 HY2 HB2 K12 K22
          cases q4 with
          | false =>
            go_wp2
            go_ret
            exact ⟨by rw [HS.out]; rfl, HB.out⟩
          | true =>
            have c1 := cell_of K1.out 5 _ rfl; have c2 := cell_of K2.out 5 _ rfl
            go_wp2_with fail
            refine (HC5.out _ HX.out HY.out).mono ?_
            rintro e w5 ⟨rfl, hb⟩
            have HX2 := hid (HX.out.on hb); have HY2 := hid (HY.out.on hb); have HB2 := hid (HB.out.trans (hb.mono HB.out.size))
            have K12 := hid ((hb.block _ (block_lt K1.out)).trans K1.out); have K22 := hid ((hb.block _ (block_lt K2.out)).trans K2.out)
            clear hb HX HY HB K1 K2 c1 c2 HC5
            have HX := HX2; have HY := HY2; have HB := HB2; have K1 := K12; have K2 := K22
            clear HX2 HY2 HB2 K12 K22
            go_wp2
            go_ret
            exact ⟨by rw [HS.out]; rfl, HB.out⟩
end Go.Proofs.Ythooibljnfnnhaa
end
section
namespace Go.Proofs.Ythooibljnfnnhaa
open Go Go.RowKit
set_option linter.unusedVariables false
set_option linter.unusedSimpArgs false
theorem load_leaf {W : World} {g k : Nat} {x : Lf} {a : LA} {y : Pnt} {b : PA} (K : W.heap[g]? = some (.cells (ndV k x a y b) NdT (0, 0))) : (Instr.loadAt LfT (.pointer (some ⟨g, 1, none⟩))).run Try.prog W = .ok (.agg (lfV x a)) W :=
  run_loadAt_mid W g 1 LfT (lfV x a).toList _ (fun j v hv => by
    have hj := (List.getElem?_eq_some_iff.1 hv).1
    have h := cell_of K (1 + j) v
    apply h
    rcases j with _ | _ | _ | _ | _ | _ | j
    iterate 6 exact hv
    simp at hj; omega) Try.underlying27 rfl infoLf
theorem load_par {W : World} {g k : Nat} {x : Lf} {a : LA} {y : Pnt} {b : PA} (K : W.heap[g]? = some (.cells (ndV k x a y b) NdT (0, 0))) : (Instr.loadAt PrT (.pointer (some ⟨g, 7, none⟩))).run Try.prog W = .ok (.agg (prV y b)) W :=
  run_loadAt_mid W g 7 PrT (prV y b).toList _ (fun j v hv => by
    have hj := (List.getElem?_eq_some_iff.1 hv).1
    have h := cell_of K (7 + j) v
    apply h
    rcases j with _ | _ | _ | j
    iterate 3 exact hv
    simp at hj; omega) Try.underlying36 rfl infoPr
/-- Two nodes, field by field. -/
def sameNd (k : Nat) (x : Lf) (u : Pnt) (k2 : Nat) (y : Lf) (v : Pnt) : Bool := k == k2 && sameLf x y && u.box == v.box && u.hash == v.hash && u.late == v.late
set_option maxHeartbeats 2000000 in
theorem Same16_any (k : Nat) (x : Lf) (a : LA) (u : Pnt) (p : PA) (k2 : Nat) (y : Lf) (b : LA) (v : Pnt) (q : PA) (w : World) (hx : LfIn w x a) (hy : LfIn w y b) (hu : PrIn w u p) (hv : PrIn w v q) (hl : LfLe x) (hm : PrLe u) :
    Calls Try.prog 52 #[.agg (ndV k x a u p), .agg (ndV k2 y b v q)] w (RetB w (sameNd k x u k2 y v)) := by
  have K1 : Hid (((w.alloc (.cells (ndV k x a u p) NdT)).alloc (.cells (ndV k2 y b v q) NdT)).heap[w.heap.size]? = some (.cells (ndV k x a u p) NdT (0, 0))) := hid ((Below.heap_alloc _ _ w.heap.size (by simp)).trans (heap_alloc_new w (.cells (ndV k x a u p) NdT)))
  have K2 : Hid (((w.alloc (.cells (ndV k x a u p) NdT)).alloc (.cells (ndV k2 y b v q) NdT)).heap[w.heap.size + 1]? = some (.cells (ndV k2 y b v q) NdT (0, 0))) := hid (by have h := heap_alloc_new (w.alloc (.cells (ndV k x a u p) NdT)) (.cells (ndV k2 y b v q) NdT); simpa using h)
  have HB : Hid (Below w.heap.size w ((w.alloc (.cells (ndV k x a u p) NdT)).alloc (.cells (ndV k2 y b v q) NdT))) := hid (((Below.refl _ _).alloc (Nat.le_refl _) _).alloc (by simp) _)
  have HX := hid (hx.on HB.out); have HY := hid (hy.on HB.out); have HU := hid (hu.on HB.out); have HV := hid (hv.on HB.out)
  have HC2 : Hid (∀ W : World, LfIn W x a → LfIn W y b → PrIn W u p → PrIn W v q → Calls Try.prog 14 #[.agg (lfV x a), .agg (lfV y b)] W (RetB W (sameLf x y))) := hid fun W h1 h2 _ _ => SameLeaf16_any x y a b W h1 h2 hl
  have HC3 : Hid (∀ W : World, LfIn W x a → LfIn W y b → PrIn W u p → PrIn W v q → Calls Try.prog 45 #[.slice p.a0 u.box.length p.c0, .slice q.a0 v.box.length q.c0] W (RetB W (u.box == v.box))) := hid fun W _ _ h1 h2 => SameB _ _ _ _ _ _ W h1.1 h2.1 hm.1
  have HC4 : Hid (∀ W : World, LfIn W x a → LfIn W y b → PrIn W u p → PrIn W v q → Calls Try.prog 45 #[.slice p.a1 u.hash.length p.c1, .slice q.a1 v.hash.length q.c1] W (RetB W (u.hash == v.hash))) := hid fun W _ _ h1 h2 => SameB _ _ _ _ _ _ W h1.2.1 h2.2.1 hm.2.1
  have HC5 : Hid (∀ W : World, LfIn W x a → LfIn W y b → PrIn W u p → PrIn W v q → Calls Try.prog 15 #[.slice p.a2 u.late.length p.c2, .slice q.a2 v.late.length q.c2] W (RetB W (u.late == v.late))) := hid fun W _ _ h1 h2 => SameZ _ _ _ _ _ _ W h1.2.2 h2.2.2 hm.2.2
  have HS : Hid (sameNd k x u k2 y v = (k == k2 && sameLf x y && u.box == v.box && u.hash == v.hash && u.late == v.late)) := hid rfl
  obtain ⟨r, hrr⟩ : ∃ t, t = sameNd k x u k2 y v := ⟨_, rfl⟩
  rw [← hrr] at HS ⊢
  obtain ⟨q2, hq2⟩ : ∃ t, t = sameLf x y := ⟨_, rfl⟩
  obtain ⟨q3, hq3⟩ : ∃ t, t = (u.box == v.box) := ⟨_, rfl⟩
  obtain ⟨q4, hq4⟩ : ∃ t, t = (u.hash == v.hash) := ⟨_, rfl⟩
  obtain ⟨q5, hq5⟩ : ∃ t, t = (u.late == v.late) := ⟨_, rfl⟩
  rw [← hq2] at HC2 HS
  rw [← hq3] at HC3 HS
  rw [← hq4] at HC4 HS
  rw [← hq5] at HC5 HS
  have hsi : ((k : Int) == (k2 : Int)) = (k == k2) := by rw [Bool.eq_iff_iff, beq_iff_eq, beq_iff_eq]; omega
  obtain ⟨q1, hq1⟩ : ∃ t, t = (k == k2) := ⟨_, rfl⟩
  rw [← hq1] at hsi HS
  have ck1 := cell_of K1.out 0 _ rfl; have ck2 := cell_of K2.out 0 _ rfl
  have l1 := load_leaf K1.out; have l2 := load_leaf K2.out
  clear hrr hx hy hu hv hl hm hq1 hq2 hq3 hq4 hq5
  go_enter Try.func52, Try.ntmps52
  cases q1 with
  | false =>
    go_wp2
    go_ret
    exact ⟨by rw [HS.out]; rfl, HB.out⟩
  | true =>
    go_wp2_with fail
    refine (HC2.out _ HX.out HY.out HU.out HV.out).mono ?_
    rintro e w2 ⟨rfl, hb⟩
    have HX2 := hid (HX.out.on hb); have HY2 := hid (HY.out.on hb); have HU2 := hid (HU.out.on hb); have HV2 := hid (HV.out.on hb); have HB2 := hid (HB.out.trans (hb.mono HB.out.size))
    have K12 := hid ((hb.block _ (block_lt K1.out)).trans K1.out); have K22 := hid ((hb.block _ (block_lt K2.out)).trans K2.out)
    clear hb HX HY HU HV HB K1 K2 ck1 ck2 l1 l2 HC2
    have HX := HX2; have HY := HY2; have HU := HU2; have HV := HV2; have HB := HB2; have K1 := K12; have K2 := K22
    clear HX2 HY2 HU2 HV2 HB2 K12 K22
    cases q2 with
    | false =>
      go_wp2
      go_ret
      exact ⟨by rw [HS.out]; rfl, HB.out⟩
    | true =>
      have c1 := cell_of K1.out 7 _ rfl; have c2 := cell_of K2.out 7 _ rfl
      go_wp2_with fail
      refine (HC3.out _ HX.out HY.out HU.out HV.out).mono ?_
      rintro e w3 ⟨rfl, hb⟩
      have HX2 := hid (HX.out.on hb); have HY2 := hid (HY.out.on hb); have HU2 := hid (HU.out.on hb); have HV2 := hid (HV.out.on hb); have HB2 := hid (HB.out.trans (hb.mono HB.out.size))
      have K12 := hid ((hb.block _ (block_lt K1.out)).trans K1.out); have K22 := hid ((hb.block _ (block_lt K2.out)).trans K2.out)
      clear hb HX HY HU HV HB K1 K2 c1 c2 HC3
      have HX := HX2; have HY := HY2; have HU := HU2; have HV := HV2; have HB := HB2; have K1 := K12; have K2 := K22
      clear HX2 HY2 HU2 HV2 HB2 K12 K22
      cases q3 with
      | false =>
        go_wp2
        go_ret
        exact ⟨by rw [HS.out]; rfl, HB.out⟩
      | true =>
        have c1 := cell_of K1.out 8 _ rfl; have c2 := cell_of K2.out 8 _ rfl
        go_wp2_with fail
        refine (HC4.out _ HX.out HY.out HU.out HV.out).mono ?_
        rintro e w4 ⟨rfl, hb⟩
        have HX2 := hid (HX.out.on hb); have HY2 := hid (HY.out.on hb); have HU2 := hid (HU.out.on hb); have HV2 := hid (HV.out.on hb); have HB2 := hid (HB.out.trans (hb.mono HB.out.size))
        have K12 := hid ((hb.block _ (block_lt K1.out)).trans K1.out); have K22 := hid ((hb.block _ (block_lt K2.out)).trans K2.out)
        clear hb HX HY HU HV HB K1 K2 c1 c2 HC4
        have HX := HX2; have HY := HY2; have HU := HU2; have HV := HV2; have HB := HB2; have K1 := K12; have K2 := K22
        clear HX2 HY2 HU2 HV2 HB2 K12 K22
        cases q4 with
        | false =>
          go_wp2
          go_ret
          exact ⟨by rw [HS.out]; rfl, HB.out⟩
        | true =>
          have c1 := cell_of K1.out 9 _ rfl; have c2 := cell_of K2.out 9 _ rfl
          go_wp2_with fail
          refine (HC5.out _ HX.out HY.out HU.out HV.out).mono ?_
          rintro e w5 ⟨rfl, hb⟩
          have HX2 := hid (HX.out.on hb); have HY2 := hid (HY.out.on hb); have HU2 := hid (HU.out.on hb); have HV2 := hid (HV.out.on hb); have HB2 := hid (HB.out.trans (hb.mono HB.out.size))
          have K12 := hid ((hb.block _ (block_lt K1.out)).trans K1.out); have K22 := hid ((hb.block _ (block_lt K2.out)).trans K2.out)
          clear hb HX HY HU HV HB K1 K2 c1 c2 HC5
          have HX := HX2; have HY := HY2; have HU := HU2; have HV := HV2; have HB := HB2; have K1 := K12; have K2 := K22
          clear HX2 HY2 HU2 HV2 HB2 K12 K22
          go_wp2
          go_ret
          exact ⟨by rw [HS.out]; rfl, HB.out⟩
end Go.Proofs.Ythooibljnfnnhaa
end
section
namespace Go.Proofs.Ythooibljnfnnhaa
open Go Go.RowKit
set_option linter.unusedVariables false
set_option linter.unusedSimpArgs false
/-- Numbers from 0 to 65535 that rise. -/
def badL (l : List Int) (i : Nat) : Bool := decide (l.getD i 0 < 0) || decide (65535 < l.getD i 0) || (decide (0 < i) && decide (l.getD i 0 ≤ l.getD (i - 1) 0))
def riseB (l : List Int) : Bool := (List.range l.length).all fun i => !badL l i
def parB (y : Pnt) : Bool := riseB y.late && (decide (y.box.length = 32) && (decide (y.hash.length = 0) || decide (y.hash.length = 32)))
theorem rise_yes {l : List Int} (h : ∀ i, i < l.length → badL l i = false) : riseB l = true := by
  unfold riseB
  rw [List.all_eq_true]
  intro i hi
  rw [h i (List.mem_range.1 hi)]; rfl
theorem rise_no {l : List Int} {i : Nat} (hi : i < l.length) (h : badL l i = true) : riseB l = false := by
  unfold riseB
  rw [Bool.eq_false_iff]
  intro hc
  have h2 := List.all_eq_true.1 hc i (List.mem_range.2 hi)
  rw [h] at h2; cases h2
theorem wrap64_in' {x : Int} (h1 : -1000000000000000000 ≤ x) (h2 : x ≤ 1000000000000000000) : wrap64 x = x := by unfold wrap64; omega
theorem getD_of {l : List Int} {i : Nat} (h : i < l.length) : l.getD i 0 = l[i] := by rw [List.getD_eq_getElem?_getD, List.getElem?_eq_getElem h]; rfl
set_option maxHeartbeats 2000000 in
theorem RightParent16_any (y : Pnt) (b : PA) (w : World) (hy : PrIn w y b) (hm : PrLe y) : Calls Try.prog 61 #[.agg (prV y b)] w (RetB w (parB y)) := by
  have K1 : Hid ((w.alloc (.cells (prV y b) PrT)).heap[w.heap.size]? = some (.cells (prV y b) PrT (0, 0))) := hid (heap_alloc_new w _)
  have HB : Hid (Below w.heap.size w (w.alloc (.cells (prV y b) PrT))) := hid ((Below.refl _ _).alloc (Nat.le_refl _) _)
  have HL : Hid (Lie (w.alloc (.cells (prV y b) PrT)) w.heap.size b.a2 (izs y.late)) := hid (hy.2.2.below HB.out)
  have HM := hid hm
  obtain ⟨W, hW⟩ : ∃ W, W = w.alloc (.cells (prV y b) PrT) := ⟨_, rfl⟩
  have HW := hid hW
  clear hy hm
  go_enter Try.func61, Try.ntmps61
  go_wp2
  rw [← hW] at HL HB K1
  have e : w.alloc (.cells #[.slice b.a0 y.box.length b.c0, .slice b.a1 y.hash.length b.c1, .slice b.a2 y.late.length b.c2] PrT) = W := hW.symm
  rw [e]
  clear hW e
  go_loopg [3] y.late.length (fun r i wr => ∃ j n : Nat, j + r = y.late.length ∧ i = .int .i64 (j : Int) ∧ (∀ i : Nat, i < j → badL y.late i = false) ∧ wr = W.drewN n)
  case atStart => exact ⟨0, 0, by omega, rfl, fun i hi => by omega, rfl⟩
  case round =>
    obtain ⟨j, n, hj, rfl, hno, rfl⟩ := hrel
    have HJ := hid hj; have HNO := hid hno
    have cL : W.cell? ⟨w.heap.size, 2, none⟩ = some (.slice b.a2 y.late.length b.c2) := cell_of K1.out 2 _ rfl
    clear hj hno
    by_cases hlt : j < y.late.length
    · have hji : (j : Int) < (y.late.length : Int) := by omega
      have hj0 : (0 : Int) ≤ (j : Int) := by omega
      obtain ⟨bb, oo, hAe, hbl, hc⟩ := HL.out.numZ hlt
      have hc2 : W.cell? ⟨bb, oo + j, none⟩ = some (.int .i64 y.late[j]) := hc
      have hg := getD_of hlt
      obtain ⟨v, hv⟩ : ∃ v, v = y.late[j] := ⟨_, rfl⟩
      rw [← hv] at hc2 hg
      have HBAD : Hid (badL y.late j = (decide (v < 0) || decide (65535 < v) || (decide (0 < j) && decide (v ≤ y.late.getD (j - 1) 0)))) := hid (by unfold badL; rw [hg])
      have HLT := hid hlt
      rw [hAe] at cL
      clear hv hg hc hlt
      have hwj : wrap64 ((j : Int) + 1) = (j : Int) + 1 := wrap64_in' (by omega) (by have := HM.out.2.2; omega)
      by_cases h1 : v < 0
      · skip
        have HF : Hid (parB y = false) := hid (by unfold parB; rw [rise_no HLT.out (by rw [HBAD.out, decide_eq_true h1]; simp), Bool.false_and])
        go_wp2
        go_quiet (fail)
        go_wp2
        go_ret
        exact ⟨by rw [HF.out]; rfl, by have h := HB.out; exact belowB_drewN (belowB_drewN h _) _⟩
      · have d1 : decide (v < 0) = false := decide_eq_false h1
        by_cases h2 : 65535 < v
        · skip
          have HF : Hid (parB y = false) := hid (by unfold parB; rw [rise_no HLT.out (by rw [HBAD.out, decide_eq_true h2]; simp), Bool.false_and])
          go_wp2
          go_quiet (fail)
          go_wp2
          go_ret
          exact ⟨by rw [HF.out]; rfl, by have h := HB.out; exact belowB_drewN (belowB_drewN h _) _⟩
        · have d2 : decide (65535 < v) = false := decide_eq_false h2
          by_cases hz : 0 < j
          · have d3 : (0 : Int) < (j : Int) := by omega
            have HZ : Hid (decide (0 < j) = true) := hid (decide_eq_true hz)
            obtain ⟨i, hi⟩ : ∃ i, i = j - 1 := ⟨_, rfl⟩
            have hwi : wrap64 ((j : Int) - 1) = (i : Int) := (wrap64_in' (by omega) (by have := HM.out.2.2; have := HLT.out; omega)).trans (by omega)
            have hii : (i : Int) < (y.late.length : Int) := by have := HLT.out; omega
            have hi0 : (0 : Int) ≤ (i : Int) := by omega
            have hlti : i < y.late.length := by have := HLT.out; omega
            obtain ⟨b2, o2, hAe2, hbl2, hc4⟩ := HL.out.numZ hlti
            obtain ⟨hbe, hoe⟩ : b2 = bb ∧ o2 = oo := by
              rw [hAe] at hAe2
              injection hAe2 with h1
              injection h1 with h1 h2
              exact ⟨h1.symm, h2.symm⟩
            subst hbe hoe
            have hg2 := getD_of hlti
            obtain ⟨u, hu⟩ : ∃ v, v = y.late[i] := ⟨_, rfl⟩
            rw [← hu] at hc4 hg2
            rw [← hi, hg2] at HBAD
            have d3n : 0 < j := hz
            clear hu hg2 hlti hAe2 hi hz hAe
            by_cases h4 : v ≤ u
            · skip
              have HF : Hid (parB y = false) := hid (by unfold parB; rw [rise_no HLT.out (by rw [HBAD.out, decide_eq_true h4, HZ.out, Bool.true_and, Bool.or_true]), Bool.false_and])
              clear HBAD
              go_wp2
              go_quiet (fail)
              go_wp2
              go_ret
              exact ⟨by rw [HF.out]; rfl, by have h := HB.out; exact belowB_drewN (belowB_drewN h _) _⟩
            · have d4 : decide (v ≤ u) = false := decide_eq_false h4
              have HF : Hid (badL y.late j = false) := hid (by rw [HBAD.out, d1, d2, HZ.out, d4]; rfl)
              clear HBAD
              go_wp2
              go_quiet (fail)
              go_wp2
              have hj := HJ.out; have hlt := HLT.out
              go_roundg (y.late.length - (j + 1))
              case measure => clear hwj; omega
              case rel => exact ⟨j + 1, _, by clear hwj; omega, by first | rfl | (rw [hwj]; rfl), fun i hi => by
                rcases Nat.lt_or_ge i j with h | h
                · exact HNO.out i h
                · obtain rfl : i = j := by clear hwj; omega
                  exact HF.out, by first | rfl | exact World.drewN_drewN _ _ _⟩
          · have d3 : decide ((0 : Int) < (j : Int)) = false := decide_eq_false (by omega)
            have HZ : Hid (decide (0 < j) = false) := hid (decide_eq_false hz)
            have d3n : decide (0 < j) = false := decide_eq_false hz
            clear hz hAe
            have HF : Hid (badL y.late j = false) := hid (by rw [HBAD.out, d1, d2, HZ.out]; rfl)
            clear HBAD
            go_wp2
            go_quiet (fail)
            go_wp2
            have hj := HJ.out; have hlt := HLT.out
            go_roundg (y.late.length - (j + 1))
            case measure => clear hwj; omega
            case rel => exact ⟨j + 1, _, by clear hwj; omega, by first | rfl | (rw [hwj]; rfl), fun i hi => by
              rcases Nat.lt_or_ge i j with h | h
              · exact HNO.out i h
              · obtain rfl : i = j := by clear hwj; omega
                exact HF.out, by first | rfl | exact World.drewN_drewN _ _ _⟩
    · have hge : ¬ (j : Int) < (y.late.length : Int) := by omega
      have hri : riseB y.late = true := rise_yes fun i hi => HNO.out i (by omega)
      have HP : Hid (parB y = (decide (y.box.length = 32) && (decide (y.hash.length = 0) || decide (y.hash.length = 32)))) := hid (by unfold parB; rw [hri, Bool.true_and])
      have c0 : W.cell? ⟨w.heap.size, 0, none⟩ = some (.slice b.a0 y.box.length b.c0) := cell_of K1.out 0 _ rfl
      have c1 : W.cell? ⟨w.heap.size, 1, none⟩ = some (.slice b.a1 y.hash.length b.c1) := cell_of K1.out 1 _ rfl
      obtain ⟨n0, hn0⟩ : ∃ t, t = y.box.length := ⟨_, rfl⟩
      obtain ⟨n1, hn1⟩ : ∃ t, t = y.hash.length := ⟨_, rfl⟩
      rw [← hn0, ← hn1] at HP
      rw [← hn0] at c0
      rw [← hn1] at c1
      have hrr : ∃ t, t = parB y := ⟨_, rfl⟩
      clear hlt hri hn0 hn1 hrr
      go_wp2
      all_goals (go_ret; refine ⟨congrArg (fun b => Ending.returned (.bool b)) ?_, by have h := HB.out; exact belowB_drewN h _⟩; have hp := HP.out; clear c0 c1; show (_ : Bool) = _; rw [hp, Bool.eq_iff_iff]; simp; try omega)
end Go.Proofs.Ythooibljnfnnhaa
end
section
namespace Go.Proofs.Ythooibljnfnnhaa
open Go Go.RowKit
set_option linter.unusedVariables false
set_option linter.unusedSimpArgs false
abbrev lf0 : Lf := ⟨[], [], [], 0, [], []⟩
abbrev la0 : LA := ⟨none, none, none, none, none, 0, 0, 0, 0, 0⟩
abbrev pr0 : Pnt := ⟨[], [], []⟩
abbrev pa0 : PA := ⟨none, none, none, 0, 0, 0⟩
theorem lf0_in (w : World) : LfIn w lf0 la0 := ⟨Lie.nil, Lie.nil, Lie.nil, Lie.nil, Lie.nil⟩
theorem pr0_in (w : World) : PrIn w pr0 pa0 := ⟨Lie.nil, Lie.nil, Lie.nil⟩
theorem lf0_le : LfLe lf0 := by unfold LfLe; decide
theorem pr0_le : PrLe pr0 := by unfold PrLe; decide
/-- Three new blocks. -/
theorem three {w : World} (o1 o2 o3 : Obj) : ((((w.alloc o1).alloc o2).alloc o3).drew.heap[w.heap.size]? = some o1) ∧ ((((w.alloc o1).alloc o2).alloc o3).drew.heap[w.heap.size + 1]? = some o2) ∧ ((((w.alloc o1).alloc o2).alloc o3).drew.heap[w.heap.size + 1 + 1]? = some o3) ∧ Below w.heap.size w (((w.alloc o1).alloc o2).alloc o3).drew := by
  have h2 := heap_alloc_new (w.alloc o1) o2
  have h3 := heap_alloc_new ((w.alloc o1).alloc o2) o3
  simp only [World.size_alloc] at h2 h3
  refine ⟨?_, ?_, h3, ((((Below.refl _ _).alloc (Nat.le_refl _) _).alloc (by simp) _).alloc (by simp; omega) _).drew⟩
  · exact (Below.heap_alloc _ _ w.heap.size (by simp; omega)).trans ((Below.heap_alloc _ _ w.heap.size (by simp)).trans (heap_alloc_new w o1))
  · exact (Below.heap_alloc _ _ (w.heap.size + 1) (by simp)).trans h2
def smallN (n0 n1 n2 n3 n4 n5 n6 n7 : Nat) : Bool := decide (n0 ≤ 200) && decide (n1 ≤ 200) && decide (n2 ≤ 200) && decide (n3 ≤ 200) && decide (n4 ≤ 200) && decide (n5 ≤ 200) && decide (n6 ≤ 200) && decide (n7 ≤ 60)
def smallB (x : Lf) (u : Pnt) : Bool := smallN x.box.length x.sign.length x.ident.length x.par.length x.sig.length u.box.length u.hash.length u.late.length
set_option maxHeartbeats 4000000 in
theorem Small16_any (k : Nat) (x : Lf) (a : LA) (u : Pnt) (p : PA) (w : World) : Calls Try.prog 32 #[.agg (ndV k x a u p)] w (RetB w (smallB x u)) := by
  have HS : Hid (smallB x u = smallN x.box.length x.sign.length x.ident.length x.par.length x.sig.length u.box.length u.hash.length u.late.length) := hid rfl
  obtain ⟨r, hrr⟩ : ∃ t, t = smallB x u := ⟨_, rfl⟩
  rw [← hrr] at HS ⊢
  clear hrr
  have H1 := hid (heap_alloc_new w (.cells (ndV k x a u p) NdT))
  have x0 := cell_of H1.out 0 _ rfl; have x1 := cell_of H1.out 1 _ rfl; have x2 := cell_of H1.out 2 _ rfl; have x3 := cell_of H1.out 3 _ rfl; have x4 := cell_of H1.out 4 _ rfl; have x5 := cell_of H1.out 5 _ rfl; have x6 := cell_of H1.out 6 _ rfl; have x7 := cell_of H1.out 7 _ rfl; have x8 := cell_of H1.out 8 _ rfl; have x9 := cell_of H1.out 9 _ rfl
  go_enter Try.func32, Try.ntmps32
  go_wp2
  go_region
  all_goals clear x0 x1 x2 x3 x4 x5 x6 x7 x8 x9 H1

  · have T := three (w := w) (.cells (ndV k x a u p) NdT) (.cells (lfV x a) LfT) (.cells (prV u p) PrT)
    generalize hW : World.drew _ = W
    have T2 : W = _ := hW.symm
    have B0 : Hid (Below w.heap.size w W) := hid (by rw [T2]; exact T.2.2.2)
    have K3 : Hid (W.heap[w.heap.size + 1]? = some (.cells (lfV x a) LfT (0, 0))) := hid (by rw [T2]; exact T.2.1)
    have K4 : Hid (W.heap[w.heap.size + 1 + 1]? = some (.cells (prV u p) PrT (0, 0))) := hid (by rw [T2]; exact T.2.2.1)
    clear T T2 hW
    have d0 := cell_of K3.out 0 _ rfl; have d1 := cell_of K3.out 1 _ rfl; have d2 := cell_of K3.out 2 _ rfl; have d3 := cell_of K3.out 4 _ rfl; have d4 := cell_of K3.out 5 _ rfl
    have d5 := cell_of K4.out 0 _ rfl; have d6 := cell_of K4.out 1 _ rfl; have d7 := cell_of K4.out 2 _ rfl
    clear K3 K4
    have e0 : W.cell? ⟨w.heap.size + 1, 0, none⟩ = some (.slice a.a0 x.box.length a.c0) := d0
    obtain ⟨m0, hm0⟩ : ∃ t, t = x.box.length := ⟨_, rfl⟩
    rw [← hm0] at e0 HS
    clear d0 hm0
    have e1 : W.cell? ⟨w.heap.size + 1, 1, none⟩ = some (.slice a.a1 x.sign.length a.c1) := d1
    obtain ⟨m1, hm1⟩ : ∃ t, t = x.sign.length := ⟨_, rfl⟩
    rw [← hm1] at e1 HS
    clear d1 hm1
    have e2 : W.cell? ⟨w.heap.size + 1, 2, none⟩ = some (.slice a.a2 x.ident.length a.c2) := d2
    obtain ⟨m2, hm2⟩ : ∃ t, t = x.ident.length := ⟨_, rfl⟩
    rw [← hm2] at e2 HS
    clear d2 hm2
    have e3 : W.cell? ⟨w.heap.size + 1, 4, none⟩ = some (.slice a.a3 x.par.length a.c3) := d3
    obtain ⟨m3, hm3⟩ : ∃ t, t = x.par.length := ⟨_, rfl⟩
    rw [← hm3] at e3 HS
    clear d3 hm3
    have e4 : W.cell? ⟨w.heap.size + 1, 5, none⟩ = some (.slice a.a4 x.sig.length a.c4) := d4
    obtain ⟨m4, hm4⟩ : ∃ t, t = x.sig.length := ⟨_, rfl⟩
    rw [← hm4] at e4 HS
    clear d4 hm4
    have e5 : W.cell? ⟨w.heap.size + 1 + 1, 0, none⟩ = some (.slice p.a0 u.box.length p.c0) := d5
    obtain ⟨m5, hm5⟩ : ∃ t, t = u.box.length := ⟨_, rfl⟩
    rw [← hm5] at e5 HS
    clear d5 hm5
    have e6 : W.cell? ⟨w.heap.size + 1 + 1, 1, none⟩ = some (.slice p.a1 u.hash.length p.c1) := d6
    obtain ⟨m6, hm6⟩ : ∃ t, t = u.hash.length := ⟨_, rfl⟩
    rw [← hm6] at e6 HS
    clear d6 hm6
    have e7 : W.cell? ⟨w.heap.size + 1 + 1, 2, none⟩ = some (.slice p.a2 u.late.length p.c2) := d7
    obtain ⟨m7, hm7⟩ : ∃ t, t = u.late.length := ⟨_, rfl⟩
    rw [← hm7] at e7 HS
    clear d7 hm7
    go_wp2
    all_goals (go_ret; refine ⟨congrArg (fun b => Ending.returned (.bool b)) ?_, B0.out⟩; have hs := HS.out; clear e0 e1 e2 e3 e4 e5 e6 e7; show (_ : Bool) = _; rw [hs, Bool.eq_iff_iff]; simp [smallN]; try omega)
  · have T := three (w := w) (.cells (ndV k x a u p) NdT) (.cells (prV u p) PrT) (.cells (lfV x a) LfT)
    generalize hW : World.drew _ = W
    have T2 : W = _ := hW.symm
    have B0 : Hid (Below w.heap.size w W) := hid (by rw [T2]; exact T.2.2.2)
    have K3 : Hid (W.heap[w.heap.size + 1 + 1]? = some (.cells (lfV x a) LfT (0, 0))) := hid (by rw [T2]; exact T.2.2.1)
    have K4 : Hid (W.heap[w.heap.size + 1]? = some (.cells (prV u p) PrT (0, 0))) := hid (by rw [T2]; exact T.2.1)
    clear T T2 hW
    have d0 := cell_of K3.out 0 _ rfl; have d1 := cell_of K3.out 1 _ rfl; have d2 := cell_of K3.out 2 _ rfl; have d3 := cell_of K3.out 4 _ rfl; have d4 := cell_of K3.out 5 _ rfl
    have d5 := cell_of K4.out 0 _ rfl; have d6 := cell_of K4.out 1 _ rfl; have d7 := cell_of K4.out 2 _ rfl
    clear K3 K4
    have e0 : W.cell? ⟨w.heap.size + 1 + 1, 0, none⟩ = some (.slice a.a0 x.box.length a.c0) := d0
    obtain ⟨m0, hm0⟩ : ∃ t, t = x.box.length := ⟨_, rfl⟩
    rw [← hm0] at e0 HS
    clear d0 hm0
    have e1 : W.cell? ⟨w.heap.size + 1 + 1, 1, none⟩ = some (.slice a.a1 x.sign.length a.c1) := d1
    obtain ⟨m1, hm1⟩ : ∃ t, t = x.sign.length := ⟨_, rfl⟩
    rw [← hm1] at e1 HS
    clear d1 hm1
    have e2 : W.cell? ⟨w.heap.size + 1 + 1, 2, none⟩ = some (.slice a.a2 x.ident.length a.c2) := d2
    obtain ⟨m2, hm2⟩ : ∃ t, t = x.ident.length := ⟨_, rfl⟩
    rw [← hm2] at e2 HS
    clear d2 hm2
    have e3 : W.cell? ⟨w.heap.size + 1 + 1, 4, none⟩ = some (.slice a.a3 x.par.length a.c3) := d3
    obtain ⟨m3, hm3⟩ : ∃ t, t = x.par.length := ⟨_, rfl⟩
    rw [← hm3] at e3 HS
    clear d3 hm3
    have e4 : W.cell? ⟨w.heap.size + 1 + 1, 5, none⟩ = some (.slice a.a4 x.sig.length a.c4) := d4
    obtain ⟨m4, hm4⟩ : ∃ t, t = x.sig.length := ⟨_, rfl⟩
    rw [← hm4] at e4 HS
    clear d4 hm4
    have e5 : W.cell? ⟨w.heap.size + 1, 0, none⟩ = some (.slice p.a0 u.box.length p.c0) := d5
    obtain ⟨m5, hm5⟩ : ∃ t, t = u.box.length := ⟨_, rfl⟩
    rw [← hm5] at e5 HS
    clear d5 hm5
    have e6 : W.cell? ⟨w.heap.size + 1, 1, none⟩ = some (.slice p.a1 u.hash.length p.c1) := d6
    obtain ⟨m6, hm6⟩ : ∃ t, t = u.hash.length := ⟨_, rfl⟩
    rw [← hm6] at e6 HS
    clear d6 hm6
    have e7 : W.cell? ⟨w.heap.size + 1, 2, none⟩ = some (.slice p.a2 u.late.length p.c2) := d7
    obtain ⟨m7, hm7⟩ : ∃ t, t = u.late.length := ⟨_, rfl⟩
    rw [← hm7] at e7 HS
    clear d7 hm7
    go_wp2
    all_goals (go_ret; refine ⟨congrArg (fun b => Ending.returned (.bool b)) ?_, B0.out⟩; have hs := HS.out; clear e0 e1 e2 e3 e4 e5 e6 e7; show (_ : Bool) = _; rw [hs, Bool.eq_iff_iff]; simp [smallN]; try omega)
def emptyLf (x : Lf) : Bool := sameNd 0 x pr0 0 lf0 pr0
def emptyPr (u : Pnt) : Bool := sameNd 0 lf0 u 0 lf0 pr0
def rightB (k : Nat) (x : Lf) (u : Pnt) : Bool := if k = 0 then emptyLf x && emptyPr u else if k = 1 then leafB x && emptyPr u else if k = 2 then parB u && emptyLf x else false
theorem build_nd (W : World) : (Instr.build NdT #[]).run Try.prog W = .ok (.agg (ndV 0 lf0 la0 pr0 pa0)) W := run_build W NdT _ _ (by kernel_rfl)
set_option maxHeartbeats 8000000 in
theorem Right16_any (k : Nat) (x : Lf) (a : LA) (u : Pnt) (p : PA) (w : World) (hx : LfIn w x a) (hu : PrIn w u p) (hl : LfLe x) (hm : PrLe u) :
    Calls Try.prog 34 #[.agg (ndV k x a u p)] w (RetB w (rightB k x u)) := by
  have HX := hid hx; have HU := hid hu; have HL := hid hl; have HM := hid hm
  clear hx hu hl hm
  have HS : Hid (rightB k x u = if k = 0 then emptyLf x && emptyPr u else if k = 1 then leafB x && emptyPr u else if k = 2 then parB u && emptyLf x else false) := hid rfl
  obtain ⟨r, hrr⟩ : ∃ t, t = rightB k x u := ⟨_, rfl⟩
  obtain ⟨q3, hq3⟩ : ∃ t, t = emptyLf x := ⟨_, rfl⟩
  obtain ⟨q4, hq4⟩ : ∃ t, t = emptyPr u := ⟨_, rfl⟩
  obtain ⟨ql, hql⟩ : ∃ t, t = leafB x := ⟨_, rfl⟩
  obtain ⟨qp, hqp⟩ : ∃ t, t = parB u := ⟨_, rfl⟩
  rw [← hrr, ← hq3, ← hq4, ← hql, ← hqp] at HS
  rw [← hrr]
  have HQ := hid (And.intro hq3 (And.intro hq4 (And.intro hql hqp)))
  clear hrr hq3 hq4 hql hqp
  have H1 := hid (heap_alloc_new w (.cells (ndV k x a u p) NdT))
  have x0 := cell_of H1.out 0 _ rfl; have x1 := cell_of H1.out 1 _ rfl; have x2 := cell_of H1.out 2 _ rfl; have x3 := cell_of H1.out 3 _ rfl; have x4 := cell_of H1.out 4 _ rfl; have x5 := cell_of H1.out 5 _ rfl; have x6 := cell_of H1.out 6 _ rfl; have x7 := cell_of H1.out 7 _ rfl; have x8 := cell_of H1.out 8 _ rfl; have x9 := cell_of H1.out 9 _ rfl
  have hbuild1 : ∀ W : World, (Instr.build NdT #[(1, .agg (lfV x a))]).run Try.prog W = .ok (.agg (ndV 0 x a pr0 pa0)) W := fun W => run_build W NdT _ _ (by kernel_rfl)
  have hbuild2 : ∀ W : World, (Instr.build NdT #[(2, .agg (prV u p))]).run Try.prog W = .ok (.agg (ndV 0 lf0 la0 u p)) W := fun W => run_build W NdT _ _ (by kernel_rfl)
  go_enter Try.func34, Try.ntmps34
  go_wp2
  go_region
  all_goals clear x0 x1 x2 x3 x4 x5 x6 x7 x8 x9 H1 hbuild1 hbuild2
  · have T := three (w := w) (.cells (ndV k x a u p) NdT) (.cells (ndV 0 x a pr0 pa0) NdT) (.cells (ndV 0 lf0 la0 u p) NdT)
    generalize hW : World.drew _ = W
    have T2 : W = _ := hW.symm
    have HB : Hid (Below w.heap.size w W) := hid (by rw [T2]; exact T.2.2.2)
    have K1 : Hid (W.heap[w.heap.size]? = some (.cells (ndV k x a u p) NdT (0, 0))) := hid (by rw [T2]; exact T.1)
    have K3 : Hid (W.heap[w.heap.size + 1]? = some (.cells (ndV 0 x a pr0 pa0) NdT (0, 0))) := hid (by rw [T2]; exact T.2.1)
    have K4 : Hid (W.heap[w.heap.size + 1 + 1]? = some (.cells (ndV 0 lf0 la0 u p) NdT (0, 0))) := hid (by rw [T2]; exact T.2.2.1)
    clear T T2 hW
    have HX1 := hid (HX.out.on HB.out); have HU1 := hid (HU.out.on HB.out)
    have C3 : Hid (∀ V, Below W.heap.size W V → Calls Try.prog 52 #[.agg (ndV 0 x a pr0 pa0), .agg (ndV 0 lf0 la0 pr0 pa0)] V (RetB V q3)) := hid fun V h => HQ.out.1 ▸ Same16_any 0 x a pr0 pa0 0 lf0 la0 pr0 pa0 V (HX1.out.on h) (lf0_in V) (pr0_in V) (pr0_in V) HL.out pr0_le
    have C4 : Hid (∀ V, Below W.heap.size W V → Calls Try.prog 52 #[.agg (ndV 0 lf0 la0 u p), .agg (ndV 0 lf0 la0 pr0 pa0)] V (RetB V q4)) := hid fun V h => HQ.out.2.1 ▸ Same16_any 0 lf0 la0 u p 0 lf0 la0 pr0 pa0 V (lf0_in V) (lf0_in V) (HU1.out.on h) (pr0_in V) lf0_le HM.out
    have CL : Hid (∀ V, Below W.heap.size W V → Calls Try.prog 20 #[.agg (lfV x a)] V (RetB V ql)) := hid fun V _ => HQ.out.2.2.1 ▸ RightLeaf16_any x a V HL.out.2.2.2.2.2
    have CP : Hid (∀ V, Below W.heap.size W V → Calls Try.prog 61 #[.agg (prV u p)] V (RetB V qp)) := hid fun V h => HQ.out.2.2.2 ▸ RightParent16_any u p V (HU1.out.on h) HM.out
    clear HX HU HL HM HX1 HU1 HQ
    have x0 := cell_of K1.out 0 _ rfl; have x1 := cell_of K1.out 1 _ rfl; have x2 := cell_of K1.out 2 _ rfl; have x3 := cell_of K1.out 3 _ rfl; have x4 := cell_of K1.out 4 _ rfl; have x5 := cell_of K1.out 5 _ rfl; have x6 := cell_of K1.out 6 _ rfl; have x7 := cell_of K1.out 7 _ rfl; have x8 := cell_of K1.out 8 _ rfl; have x9 := cell_of K1.out 9 _ rfl
    have y0 := cell_of K3.out 0 _ rfl; have y1 := cell_of K3.out 1 _ rfl; have y2 := cell_of K3.out 2 _ rfl; have y3 := cell_of K3.out 3 _ rfl; have y4 := cell_of K3.out 4 _ rfl; have y5 := cell_of K3.out 5 _ rfl; have y6 := cell_of K3.out 6 _ rfl; have y7 := cell_of K3.out 7 _ rfl; have y8 := cell_of K3.out 8 _ rfl; have y9 := cell_of K3.out 9 _ rfl
    have z0 := cell_of K4.out 0 _ rfl; have z1 := cell_of K4.out 1 _ rfl; have z2 := cell_of K4.out 2 _ rfl; have z3 := cell_of K4.out 3 _ rfl; have z4 := cell_of K4.out 4 _ rfl; have z5 := cell_of K4.out 5 _ rfl; have z6 := cell_of K4.out 6 _ rfl; have z7 := cell_of K4.out 7 _ rfl; have z8 := cell_of K4.out 8 _ rfl; have z9 := cell_of K4.out 9 _ rfl
    have hbuild := build_nd
    by_cases hk0 : k = 0
    · subst hk0
      have HS2 := HS.out
      rw [if_pos rfl] at HS2
      have HS := hid HS2
      clear HS2
      go_wp2_with fail
      refine (C3.out _ (Below.refl _ _)).mono ?_
      rintro e v1 ⟨rfl, hb⟩
      have HB2 := hid (HB.out.trans (hb.mono HB.out.size))
      have HBW : Hid (Below W.heap.size W v1) := hid hb
      have K32 := (hb.block _ (block_lt K3.out)).trans K3.out; have K42 := (hb.block _ (block_lt K4.out)).trans K4.out
      clear hb HB x0 y0 z0 x1 y1 z1 x2 y2 z2 x3 y3 z3 x4 y4 z4 x5 y5 z5 x6 y6 z6 x7 y7 z7 x8 y8 z8 x9 y9 z9 C3
      have HB := HB2
      have y0 := cell_of K32 0 _ rfl; have y1 := cell_of K32 1 _ rfl; have y2 := cell_of K32 2 _ rfl; have y3 := cell_of K32 3 _ rfl; have y4 := cell_of K32 4 _ rfl; have y5 := cell_of K32 5 _ rfl; have y6 := cell_of K32 6 _ rfl; have y7 := cell_of K32 7 _ rfl; have y8 := cell_of K32 8 _ rfl; have y9 := cell_of K32 9 _ rfl
      have z0 := cell_of K42 0 _ rfl; have z1 := cell_of K42 1 _ rfl; have z2 := cell_of K42 2 _ rfl; have z3 := cell_of K42 3 _ rfl; have z4 := cell_of K42 4 _ rfl; have z5 := cell_of K42 5 _ rfl; have z6 := cell_of K42 6 _ rfl; have z7 := cell_of K42 7 _ rfl; have z8 := cell_of K42 8 _ rfl; have z9 := cell_of K42 9 _ rfl
      clear HB2 K32 K42
      cases q3 with
      | false =>
        go_wp2
        go_ret
        exact ⟨by rw [HS.out]; rfl, HB.out⟩
      | true =>
        go_wp2_with fail
        refine (C4.out _ HBW.out).mono ?_
        rintro e v2 ⟨rfl, hb⟩
        have HB2 := hid (HB.out.trans (hb.mono HB.out.size))
        clear hb HB y0 z0 y1 z1 y2 z2 y3 z3 y4 z4 y5 z5 y6 z6 y7 z7 y8 z8 y9 z9
        have HB := HB2
        clear HB2
        go_wp2
        go_ret
        exact ⟨by rw [HS.out]; rfl, HB.out⟩
    · by_cases hk1 : k = 1
      · subst hk1
        have HS2 := HS.out
        rw [if_neg (by omega)] at HS2
        rw [if_pos rfl] at HS2
        have HS := hid HS2
        clear HS2
        go_wp2_with fail
        refine (CL.out _ (Below.refl _ _)).mono ?_
        rintro e v1 ⟨rfl, hb⟩
        have HB2 := hid (HB.out.trans (hb.mono HB.out.size))
        have HBW : Hid (Below W.heap.size W v1) := hid hb
        have K32 := (hb.block _ (block_lt K3.out)).trans K3.out; have K42 := (hb.block _ (block_lt K4.out)).trans K4.out
        clear hb HB x0 y0 z0 x1 y1 z1 x2 y2 z2 x3 y3 z3 x4 y4 z4 x5 y5 z5 x6 y6 z6 x7 y7 z7 x8 y8 z8 x9 y9 z9 CL
        have HB := HB2
        have y0 := cell_of K32 0 _ rfl; have y1 := cell_of K32 1 _ rfl; have y2 := cell_of K32 2 _ rfl; have y3 := cell_of K32 3 _ rfl; have y4 := cell_of K32 4 _ rfl; have y5 := cell_of K32 5 _ rfl; have y6 := cell_of K32 6 _ rfl; have y7 := cell_of K32 7 _ rfl; have y8 := cell_of K32 8 _ rfl; have y9 := cell_of K32 9 _ rfl
        have z0 := cell_of K42 0 _ rfl; have z1 := cell_of K42 1 _ rfl; have z2 := cell_of K42 2 _ rfl; have z3 := cell_of K42 3 _ rfl; have z4 := cell_of K42 4 _ rfl; have z5 := cell_of K42 5 _ rfl; have z6 := cell_of K42 6 _ rfl; have z7 := cell_of K42 7 _ rfl; have z8 := cell_of K42 8 _ rfl; have z9 := cell_of K42 9 _ rfl
        clear HB2 K32 K42
        cases ql with
        | false =>
          go_wp2
          go_ret
          exact ⟨by rw [HS.out]; rfl, HB.out⟩
        | true =>
          go_wp2_with fail
          refine (C4.out _ HBW.out).mono ?_
          rintro e v2 ⟨rfl, hb⟩
          have HB2 := hid (HB.out.trans (hb.mono HB.out.size))
          clear hb HB y0 z0 y1 z1 y2 z2 y3 z3 y4 z4 y5 z5 y6 z6 y7 z7 y8 z8 y9 z9
          have HB := HB2
          clear HB2
          go_wp2
          go_ret
          exact ⟨by rw [HS.out]; rfl, HB.out⟩
      · by_cases hk2 : k = 2
        · subst hk2
          have HS2 := HS.out
          rw [if_neg (by omega)] at HS2
          rw [if_neg (by omega)] at HS2
          rw [if_pos rfl] at HS2
          have HS := hid HS2
          clear HS2
          go_wp2_with fail
          refine (CP.out _ (Below.refl _ _)).mono ?_
          rintro e v1 ⟨rfl, hb⟩
          have HB2 := hid (HB.out.trans (hb.mono HB.out.size))
          have HBW : Hid (Below W.heap.size W v1) := hid hb
          have K32 := (hb.block _ (block_lt K3.out)).trans K3.out; have K42 := (hb.block _ (block_lt K4.out)).trans K4.out
          clear hb HB x0 y0 z0 x1 y1 z1 x2 y2 z2 x3 y3 z3 x4 y4 z4 x5 y5 z5 x6 y6 z6 x7 y7 z7 x8 y8 z8 x9 y9 z9 CP
          have HB := HB2
          have y0 := cell_of K32 0 _ rfl; have y1 := cell_of K32 1 _ rfl; have y2 := cell_of K32 2 _ rfl; have y3 := cell_of K32 3 _ rfl; have y4 := cell_of K32 4 _ rfl; have y5 := cell_of K32 5 _ rfl; have y6 := cell_of K32 6 _ rfl; have y7 := cell_of K32 7 _ rfl; have y8 := cell_of K32 8 _ rfl; have y9 := cell_of K32 9 _ rfl
          have z0 := cell_of K42 0 _ rfl; have z1 := cell_of K42 1 _ rfl; have z2 := cell_of K42 2 _ rfl; have z3 := cell_of K42 3 _ rfl; have z4 := cell_of K42 4 _ rfl; have z5 := cell_of K42 5 _ rfl; have z6 := cell_of K42 6 _ rfl; have z7 := cell_of K42 7 _ rfl; have z8 := cell_of K42 8 _ rfl; have z9 := cell_of K42 9 _ rfl
          clear HB2 K32 K42
          cases qp with
          | false =>
            go_wp2
            go_ret
            exact ⟨by rw [HS.out]; rfl, HB.out⟩
          | true =>
            go_wp2_with fail
            refine (C3.out _ HBW.out).mono ?_
            rintro e v2 ⟨rfl, hb⟩
            have HB2 := hid (HB.out.trans (hb.mono HB.out.size))
            clear hb HB y0 z0 y1 z1 y2 z2 y3 z3 y4 z4 y5 z5 y6 z6 y7 z7 y8 z8 y9 z9
            have HB := HB2
            clear HB2
            go_wp2
            go_ret
            exact ⟨by rw [HS.out]; rfl, HB.out⟩
        · have n0 : ¬ (k : Int) = 0 := by omega
          have n1 : ¬ (k : Int) = 1 := by omega
          have n2 : ¬ (k : Int) = 2 := by omega
          have HF : Hid (r = false) := hid (by rw [HS.out, if_neg hk0, if_neg hk1, if_neg hk2])
          clear hk0 hk1 hk2 HS
          go_wp2
          go_ret
          exact ⟨by rw [HF.out]; rfl, HB.out⟩
  · have T := three (w := w) (.cells (ndV k x a u p) NdT) (.cells (ndV 0 lf0 la0 u p) NdT) (.cells (ndV 0 x a pr0 pa0) NdT)
    generalize hW : World.drew _ = W
    have T2 : W = _ := hW.symm
    have HB : Hid (Below w.heap.size w W) := hid (by rw [T2]; exact T.2.2.2)
    have K1 : Hid (W.heap[w.heap.size]? = some (.cells (ndV k x a u p) NdT (0, 0))) := hid (by rw [T2]; exact T.1)
    have K3 : Hid (W.heap[w.heap.size + 1 + 1]? = some (.cells (ndV 0 x a pr0 pa0) NdT (0, 0))) := hid (by rw [T2]; exact T.2.2.1)
    have K4 : Hid (W.heap[w.heap.size + 1]? = some (.cells (ndV 0 lf0 la0 u p) NdT (0, 0))) := hid (by rw [T2]; exact T.2.1)
    clear T T2 hW
    have HX1 := hid (HX.out.on HB.out); have HU1 := hid (HU.out.on HB.out)
    have C3 : Hid (∀ V, Below W.heap.size W V → Calls Try.prog 52 #[.agg (ndV 0 x a pr0 pa0), .agg (ndV 0 lf0 la0 pr0 pa0)] V (RetB V q3)) := hid fun V h => HQ.out.1 ▸ Same16_any 0 x a pr0 pa0 0 lf0 la0 pr0 pa0 V (HX1.out.on h) (lf0_in V) (pr0_in V) (pr0_in V) HL.out pr0_le
    have C4 : Hid (∀ V, Below W.heap.size W V → Calls Try.prog 52 #[.agg (ndV 0 lf0 la0 u p), .agg (ndV 0 lf0 la0 pr0 pa0)] V (RetB V q4)) := hid fun V h => HQ.out.2.1 ▸ Same16_any 0 lf0 la0 u p 0 lf0 la0 pr0 pa0 V (lf0_in V) (lf0_in V) (HU1.out.on h) (pr0_in V) lf0_le HM.out
    have CL : Hid (∀ V, Below W.heap.size W V → Calls Try.prog 20 #[.agg (lfV x a)] V (RetB V ql)) := hid fun V _ => HQ.out.2.2.1 ▸ RightLeaf16_any x a V HL.out.2.2.2.2.2
    have CP : Hid (∀ V, Below W.heap.size W V → Calls Try.prog 61 #[.agg (prV u p)] V (RetB V qp)) := hid fun V h => HQ.out.2.2.2 ▸ RightParent16_any u p V (HU1.out.on h) HM.out
    clear HX HU HL HM HX1 HU1 HQ
    have x0 := cell_of K1.out 0 _ rfl; have x1 := cell_of K1.out 1 _ rfl; have x2 := cell_of K1.out 2 _ rfl; have x3 := cell_of K1.out 3 _ rfl; have x4 := cell_of K1.out 4 _ rfl; have x5 := cell_of K1.out 5 _ rfl; have x6 := cell_of K1.out 6 _ rfl; have x7 := cell_of K1.out 7 _ rfl; have x8 := cell_of K1.out 8 _ rfl; have x9 := cell_of K1.out 9 _ rfl
    have y0 := cell_of K3.out 0 _ rfl; have y1 := cell_of K3.out 1 _ rfl; have y2 := cell_of K3.out 2 _ rfl; have y3 := cell_of K3.out 3 _ rfl; have y4 := cell_of K3.out 4 _ rfl; have y5 := cell_of K3.out 5 _ rfl; have y6 := cell_of K3.out 6 _ rfl; have y7 := cell_of K3.out 7 _ rfl; have y8 := cell_of K3.out 8 _ rfl; have y9 := cell_of K3.out 9 _ rfl
    have z0 := cell_of K4.out 0 _ rfl; have z1 := cell_of K4.out 1 _ rfl; have z2 := cell_of K4.out 2 _ rfl; have z3 := cell_of K4.out 3 _ rfl; have z4 := cell_of K4.out 4 _ rfl; have z5 := cell_of K4.out 5 _ rfl; have z6 := cell_of K4.out 6 _ rfl; have z7 := cell_of K4.out 7 _ rfl; have z8 := cell_of K4.out 8 _ rfl; have z9 := cell_of K4.out 9 _ rfl
    have hbuild := build_nd
    by_cases hk0 : k = 0
    · subst hk0
      have HS2 := HS.out
      rw [if_pos rfl] at HS2
      have HS := hid HS2
      clear HS2
      go_wp2_with fail
      refine (C3.out _ (Below.refl _ _)).mono ?_
      rintro e v1 ⟨rfl, hb⟩
      have HB2 := hid (HB.out.trans (hb.mono HB.out.size))
      have HBW : Hid (Below W.heap.size W v1) := hid hb
      have K32 := (hb.block _ (block_lt K3.out)).trans K3.out; have K42 := (hb.block _ (block_lt K4.out)).trans K4.out
      clear hb HB x0 y0 z0 x1 y1 z1 x2 y2 z2 x3 y3 z3 x4 y4 z4 x5 y5 z5 x6 y6 z6 x7 y7 z7 x8 y8 z8 x9 y9 z9 C3
      have HB := HB2
      have y0 := cell_of K32 0 _ rfl; have y1 := cell_of K32 1 _ rfl; have y2 := cell_of K32 2 _ rfl; have y3 := cell_of K32 3 _ rfl; have y4 := cell_of K32 4 _ rfl; have y5 := cell_of K32 5 _ rfl; have y6 := cell_of K32 6 _ rfl; have y7 := cell_of K32 7 _ rfl; have y8 := cell_of K32 8 _ rfl; have y9 := cell_of K32 9 _ rfl
      have z0 := cell_of K42 0 _ rfl; have z1 := cell_of K42 1 _ rfl; have z2 := cell_of K42 2 _ rfl; have z3 := cell_of K42 3 _ rfl; have z4 := cell_of K42 4 _ rfl; have z5 := cell_of K42 5 _ rfl; have z6 := cell_of K42 6 _ rfl; have z7 := cell_of K42 7 _ rfl; have z8 := cell_of K42 8 _ rfl; have z9 := cell_of K42 9 _ rfl
      clear HB2 K32 K42
      cases q3 with
      | false =>
        go_wp2
        go_ret
        exact ⟨by rw [HS.out]; rfl, HB.out⟩
      | true =>
        go_wp2_with fail
        refine (C4.out _ HBW.out).mono ?_
        rintro e v2 ⟨rfl, hb⟩
        have HB2 := hid (HB.out.trans (hb.mono HB.out.size))
        clear hb HB y0 z0 y1 z1 y2 z2 y3 z3 y4 z4 y5 z5 y6 z6 y7 z7 y8 z8 y9 z9
        have HB := HB2
        clear HB2
        go_wp2
        go_ret
        exact ⟨by rw [HS.out]; rfl, HB.out⟩
    · by_cases hk1 : k = 1
      · subst hk1
        have HS2 := HS.out
        rw [if_neg (by omega)] at HS2
        rw [if_pos rfl] at HS2
        have HS := hid HS2
        clear HS2
        go_wp2_with fail
        refine (CL.out _ (Below.refl _ _)).mono ?_
        rintro e v1 ⟨rfl, hb⟩
        have HB2 := hid (HB.out.trans (hb.mono HB.out.size))
        have HBW : Hid (Below W.heap.size W v1) := hid hb
        have K32 := (hb.block _ (block_lt K3.out)).trans K3.out; have K42 := (hb.block _ (block_lt K4.out)).trans K4.out
        clear hb HB x0 y0 z0 x1 y1 z1 x2 y2 z2 x3 y3 z3 x4 y4 z4 x5 y5 z5 x6 y6 z6 x7 y7 z7 x8 y8 z8 x9 y9 z9 CL
        have HB := HB2
        have y0 := cell_of K32 0 _ rfl; have y1 := cell_of K32 1 _ rfl; have y2 := cell_of K32 2 _ rfl; have y3 := cell_of K32 3 _ rfl; have y4 := cell_of K32 4 _ rfl; have y5 := cell_of K32 5 _ rfl; have y6 := cell_of K32 6 _ rfl; have y7 := cell_of K32 7 _ rfl; have y8 := cell_of K32 8 _ rfl; have y9 := cell_of K32 9 _ rfl
        have z0 := cell_of K42 0 _ rfl; have z1 := cell_of K42 1 _ rfl; have z2 := cell_of K42 2 _ rfl; have z3 := cell_of K42 3 _ rfl; have z4 := cell_of K42 4 _ rfl; have z5 := cell_of K42 5 _ rfl; have z6 := cell_of K42 6 _ rfl; have z7 := cell_of K42 7 _ rfl; have z8 := cell_of K42 8 _ rfl; have z9 := cell_of K42 9 _ rfl
        clear HB2 K32 K42
        cases ql with
        | false =>
          go_wp2
          go_ret
          exact ⟨by rw [HS.out]; rfl, HB.out⟩
        | true =>
          go_wp2_with fail
          refine (C4.out _ HBW.out).mono ?_
          rintro e v2 ⟨rfl, hb⟩
          have HB2 := hid (HB.out.trans (hb.mono HB.out.size))
          clear hb HB y0 z0 y1 z1 y2 z2 y3 z3 y4 z4 y5 z5 y6 z6 y7 z7 y8 z8 y9 z9
          have HB := HB2
          clear HB2
          go_wp2
          go_ret
          exact ⟨by rw [HS.out]; rfl, HB.out⟩
      · by_cases hk2 : k = 2
        · subst hk2
          have HS2 := HS.out
          rw [if_neg (by omega)] at HS2
          rw [if_neg (by omega)] at HS2
          rw [if_pos rfl] at HS2
          have HS := hid HS2
          clear HS2
          go_wp2_with fail
          refine (CP.out _ (Below.refl _ _)).mono ?_
          rintro e v1 ⟨rfl, hb⟩
          have HB2 := hid (HB.out.trans (hb.mono HB.out.size))
          have HBW : Hid (Below W.heap.size W v1) := hid hb
          have K32 := (hb.block _ (block_lt K3.out)).trans K3.out; have K42 := (hb.block _ (block_lt K4.out)).trans K4.out
          clear hb HB x0 y0 z0 x1 y1 z1 x2 y2 z2 x3 y3 z3 x4 y4 z4 x5 y5 z5 x6 y6 z6 x7 y7 z7 x8 y8 z8 x9 y9 z9 CP
          have HB := HB2
          have y0 := cell_of K32 0 _ rfl; have y1 := cell_of K32 1 _ rfl; have y2 := cell_of K32 2 _ rfl; have y3 := cell_of K32 3 _ rfl; have y4 := cell_of K32 4 _ rfl; have y5 := cell_of K32 5 _ rfl; have y6 := cell_of K32 6 _ rfl; have y7 := cell_of K32 7 _ rfl; have y8 := cell_of K32 8 _ rfl; have y9 := cell_of K32 9 _ rfl
          have z0 := cell_of K42 0 _ rfl; have z1 := cell_of K42 1 _ rfl; have z2 := cell_of K42 2 _ rfl; have z3 := cell_of K42 3 _ rfl; have z4 := cell_of K42 4 _ rfl; have z5 := cell_of K42 5 _ rfl; have z6 := cell_of K42 6 _ rfl; have z7 := cell_of K42 7 _ rfl; have z8 := cell_of K42 8 _ rfl; have z9 := cell_of K42 9 _ rfl
          clear HB2 K32 K42
          cases qp with
          | false =>
            go_wp2
            go_ret
            exact ⟨by rw [HS.out]; rfl, HB.out⟩
          | true =>
            go_wp2_with fail
            refine (C3.out _ HBW.out).mono ?_
            rintro e v2 ⟨rfl, hb⟩
            have HB2 := hid (HB.out.trans (hb.mono HB.out.size))
            clear hb HB y0 z0 y1 z1 y2 z2 y3 z3 y4 z4 y5 z5 y6 z6 y7 z7 y8 z8 y9 z9
            have HB := HB2
            clear HB2
            go_wp2
            go_ret
            exact ⟨by rw [HS.out]; rfl, HB.out⟩
        · have n0 : ¬ (k : Int) = 0 := by omega
          have n1 : ¬ (k : Int) = 1 := by omega
          have n2 : ¬ (k : Int) = 2 := by omega
          have HF : Hid (r = false) := hid (by rw [HS.out, if_neg hk0, if_neg hk1, if_neg hk2])
          clear hk0 hk1 hk2 HS
          go_wp2
          go_ret
          exact ⟨by rw [HF.out]; rfl, HB.out⟩
end Go.Proofs.Ythooibljnfnnhaa
end
section
namespace Go.Proofs.Ythooibljnfnnhaa
open Go Go.RowKit
set_option linter.unusedVariables false
set_option linter.unusedSimpArgs false
/-- Bytes that lie somewhere. -/
def RetQ (W : World) (xs : List UInt8) (e : Ending) (w' : World) : Prop := ∃ A c, e = .returned (.slice A xs.length c) ∧ Sq w' w'.heap.size A c (bvs xs) ∧ Below W.heap.size W w'
theorem lie_to {w w' : World} {A : Option Addr} {xs : List Value} (h : Lie w w.heap.size A xs) (hb : Below w.heap.size w w') : Lie w' w'.heap.size A xs := (h.below hb).more hb.size
/-- A leaf's bytes but for the signature. -/
def aheadB (x : Lf) : List UInt8 := (vecBytes x.box ++ vecBytes x.sign) ++ (vecBytes x.ident ++ [UInt8.ofNat x.src]) ++ (if x.src = 3 then vecBytes x.par else [])
def Lf200 (x : Lf) : Prop := x.box.length ≤ 200 ∧ x.sign.length ≤ 200 ∧ x.ident.length ≤ 200 ∧ x.par.length ≤ 200 ∧ x.sig.length ≤ 200 ∧ x.src < 256
theorem vec_le {xs : List UInt8} (h : xs.length ≤ 100000) : (vecBytes xs).length ≤ 100004 := by
  have h1 := lenBytes_length xs.length
  have h2 := lenSize_le xs.length
  simp only [vecBytes, List.length_append]
  omega
section
variable {P : Program} {ops : Array Oper} {Q : Exit → Act → World → Prop} {md : Region.Mode} {n : Nat} {a : Act} {w0 : World}
theorem wpGrA_q {g f : Nat} {l : List Oper} {i : Nat} {oi : Oper} {listed : Array Bool} {fn : FuncId} {args : Array Value} (xs : List UInt8) (hi : ops[i]? = some oi) (hrd : (Region.ready md ops listed == [i] && decide (i < n)) = true)
    (hw : Region.wanted oi (yielded ops a.tmps) = true) (hr : ∀ w', (execOp a.eval oi).run P w' = .ok (.enter fn args) w') (hc : ∀ w', Below w0.heap.size w0 w' → Calls P fn args w' (RetQ w' xs))
    (h : ∀ A c w2, Below w0.heap.size w0 w2 → Sq w2 w2.heap.size A c (bvs xs) → wpGrA P md ops Q n (GrL P md ops Q g n l) w2 f (listed.setIfInBounds i true) (a.put oi.dst (.slice A xs.length c))) : wpGrA P md ops Q n (GrL P md ops Q g n l) w0 (f + 1) listed a :=
  wpGrA_call (fun w' v w'' => ∃ A c, v = .slice A xs.length c ∧ Sq w'' w''.heap.size A c (bvs xs)) hi hrd hw hr (fun w' hb => (hc w' hb).mono fun e w'' ⟨A, c, he, hs, hb2⟩ => ⟨_, he, hb2, A, c, rfl, hs⟩)
    fun w' v w'' hb hb2 ⟨A, c, hv, hs⟩ => by
      subst hv
      exact h A c w'' (hb.trans (hb2.mono hb.size)) hs
end
end Go.Proofs.Ythooibljnfnnhaa
end
section
namespace Go.Proofs.Ythooibljnfnnhaa
open Go Go.RowKit
set_option linter.unusedVariables false
set_option linter.unusedSimpArgs false
/-- A vector at a place: where the next one stands. -/
def vecN (xs : List UInt8) (i : Nat) : Nat := if (vecAt (xs.drop i)).2.2 = 0 then i + (lenAt (xs.drop i)).2.1 + (lenAt (xs.drop i)).1 else i
end Go.Proofs.Ythooibljnfnnhaa
end
section
namespace Go.Proofs.Ythooibljnfnnhaa
open Go Go.RowKit
set_option linter.unusedVariables false
set_option linter.unusedSimpArgs false
/-- Where the j-th vector stands; its bytes; the first error of some. -/
def posD (xs : List UInt8) (i : Nat) : Nat → Nat
  | 0 => i
  | j + 1 => vecN xs (posD xs i j)
def vecJ (xs : List UInt8) (i j : Nat) : List UInt8 := (vecAt (xs.drop (posD xs i j))).1
def errJ (xs : List UInt8) (i j : Nat) : Nat := (vecAt (xs.drop (posD xs i j))).2.2
def errD (xs : List UInt8) (i : Nat) : Nat → Nat
  | 0 => 0
  | j + 1 => if errD xs i j = 0 then errJ xs i j else errD xs i j
/-- Slices that read as lists of bytes, in memory below B. -/
def RowsAt (w : World) (B : Nat) (vs : List Value) (ls : List (List UInt8)) : Prop := vs.length = ls.length ∧ ∀ (j : Nat) (x : List UInt8), ls[j]? = some x → ∃ A c, vs[j]? = some (Value.slice A x.length c) ∧ Sq w B A c (bvs x)
theorem RowsAt.on {w w' : World} {B : Nat} {vs : List Value} {ls : List (List UInt8)} (h : RowsAt w B vs ls) (hb : Below B w w') : RowsAt w' B vs ls := ⟨h.1, fun j x hx => by obtain ⟨A, c, h1, h2⟩ := h.2 j x hx; exact ⟨A, c, h1, h2.below hb⟩⟩
end Go.Proofs.Ythooibljnfnnhaa
end
section
namespace Go.Proofs.Ythooibljnfnnhaa
open Go Go.RowKit
set_option linter.unusedVariables false
set_option linter.unusedSimpArgs false
abbrev lfZ : Array Value := #[.slice none 0 0, .slice none 0 0, .slice none 0 0, .int .u8 0, .slice none 0 0, .slice none 0 0]
theorem lfZ_size {x : Lf} {a : LA} : lfZ.size = (lfV x a).size := rfl
theorem lfV_one {x : Lf} {a : LA} : (lfV x a).all (·.oneCell') = true := by simp [Value.oneCell']
def srcJ (xs : List UInt8) (i : Nat) : Nat := (xs.getD i 0).toNat
def tlP (xs : List UInt8) (i : Nat) : Nat := posD xs i 3
def tlR (xs : List UInt8) (i : Nat) : Nat := if srcJ xs (tlP xs i) = 3 then posD xs (tlP xs i + 1) 1 else tlP xs i + 1
def tlF (xs : List UInt8) (i : Nat) : Lf := ⟨vecJ xs i 0, vecJ xs i 1, vecJ xs i 2, srcJ xs (tlP xs i), if srcJ xs (tlP xs i) = 3 then vecJ xs (tlP xs i + 1) 0 else [], vecJ xs (tlR xs i) 0⟩
def tlE (xs : List UInt8) (i : Nat) : Nat :=
  if errD xs i 3 ≠ 0 then errD xs i 3
  else if xs.length ≤ tlP xs i then 4
  else if srcJ xs (tlP xs i) = 0 ∨ 3 < srcJ xs (tlP xs i) then 3
  else if srcJ xs (tlP xs i) = 3 ∧ errD xs (tlP xs i + 1) 1 ≠ 0 then errD xs (tlP xs i + 1) 1
  else if errD xs (tlR xs i) 1 ≠ 0 then errD xs (tlR xs i) 1
  else if leafB (tlF xs i) then 0 else 3
def tlX (xs : List UInt8) (i : Nat) : Lf := if tlE xs i = 0 then tlF xs i else lf0
def tlN (xs : List UInt8) (i : Nat) : Nat := if tlE xs i = 0 then posD xs (tlR xs i) 1 else i
theorem build_lf (W : World) : (Instr.build LfT #[]).run Try.prog W = .ok (.agg (lfV lf0 la0)) W := run_build W LfT _ _ (by kernel_rfl)
/-- A leaf that lies below B. -/
def LfB (w : World) (B : Nat) (x : Lf) (a : LA) : Prop := Lie w B a.a0 (bvs x.box) ∧ Lie w B a.a1 (bvs x.sign) ∧ Lie w B a.a2 (bvs x.ident) ∧ Lie w B a.a3 (bvs x.par) ∧ Lie w B a.a4 (bvs x.sig)
def PrB (w : World) (B : Nat) (y : Pnt) (b : PA) : Prop := Lie w B b.a0 (bvs y.box) ∧ Lie w B b.a1 (bvs y.hash) ∧ Lie w B b.a2 (izs y.late)
theorem LfB.on {w w' : World} {B : Nat} {x : Lf} {a : LA} (h : LfB w B x a) (hb : Below B w w') : LfB w' B x a := ⟨h.1.below hb, h.2.1.below hb, h.2.2.1.below hb, h.2.2.2.1.below hb, h.2.2.2.2.below hb⟩
theorem LfB.in_ {w : World} {B : Nat} {x : Lf} {a : LA} (h : LfB w B x a) (hb : B ≤ w.heap.size) : LfIn w x a := ⟨h.1.more hb, h.2.1.more hb, h.2.2.1.more hb, h.2.2.2.1.more hb, h.2.2.2.2.more hb⟩
theorem PrB.on {w w' : World} {B : Nat} {y : Pnt} {b : PA} (h : PrB w B y b) (hb : Below B w w') : PrB w' B y b := ⟨h.1.below hb, h.2.1.below hb, h.2.2.below hb⟩
theorem PrB.in_ {w : World} {B : Nat} {y : Pnt} {b : PA} (h : PrB w B y b) (hb : B ≤ w.heap.size) : PrIn w y b := ⟨h.1.more hb, h.2.1.more hb, h.2.2.more hb⟩
end Go.Proofs.Ythooibljnfnnhaa
end
section
namespace Go.Proofs.Ythooibljnfnnhaa
open Go Go.RowKit
set_option linter.unusedVariables false
set_option linter.unusedSimpArgs false
abbrev ndZ : Array Value := #[.int .u8 0, .slice none 0 0, .slice none 0 0, .slice none 0 0, .int .u8 0, .slice none 0 0, .slice none 0 0, .slice none 0 0, .slice none 0 0, .slice none 0 0]
theorem ndZ_size {k : Nat} {x : Lf} {a : LA} {y : Pnt} {b : PA} : ndZ.size = (ndV k x a y b).size := rfl
theorem ndV_one {k : Nat} {x : Lf} {a : LA} {y : Pnt} {b : PA} : (ndV k x a y b).all (·.oneCell') = true := by simp [Value.oneCell']
/-- Numbers of four bytes each. -/
def lateAt (v : List UInt8) (j : Nat) : Int := ((((v.getD (4 * j) 0).toNat * 256 + (v.getD (4 * j + 1) 0).toNat) * 256 + (v.getD (4 * j + 2) 0).toNat) * 256 + (v.getD (4 * j + 3) 0).toNat : Nat)
def lateOf (v : List UInt8) (n : Nat) : List Int := (List.range n).map (lateAt v)
def tkU (xs : List UInt8) (i : Nat) : Pnt := ⟨vecJ xs (i + 1) 0, vecJ xs (i + 1) 1, lateOf (vecJ xs (i + 1) 2) ((vecJ xs (i + 1) 2).length / 4)⟩
def tkE (xs : List UInt8) (i : Nat) : Nat :=
  if xs.length ≤ i then 4
  else if srcJ xs i = 0 then 0
  else if srcJ xs i = 1 then tlE xs (i + 1)
  else if srcJ xs i ≠ 2 then 3
  else if errD xs (i + 1) 3 ≠ 0 then errD xs (i + 1) 3
  else if (vecJ xs (i + 1) 2).length % 4 = 0 ∧ parB (tkU xs i) = true then 0 else 3
def tkN (xs : List UInt8) (i : Nat) : Nat := if tkE xs i = 0 then (if srcJ xs i = 0 then i + 1 else if srcJ xs i = 1 then tlN xs (i + 1) else posD xs (i + 1) 3) else i
def tkK (xs : List UInt8) (i : Nat) : Nat := if tkE xs i = 0 then srcJ xs i else 0
def tkL (xs : List UInt8) (i : Nat) : Lf := if tkE xs i = 0 ∧ srcJ xs i = 1 then tlX xs (i + 1) else lf0
def tkP (xs : List UInt8) (i : Nat) : Pnt := if tkE xs i = 0 ∧ srcJ xs i = 2 then tkU xs i else pr0
/-- A parent that lies: its bytes below B, its numbers in memory that is new. -/
def PrF (w' : World) (B base : Nat) (y : Pnt) (b : PA) : Prop := Lie w' B b.a0 (bvs y.box) ∧ Lie w' B b.a1 (bvs y.hash) ∧ Lie w' w'.heap.size b.a2 (izs y.late) ∧ (izs y.late ≠ [] → ∃ g o, b.a2 = some ⟨g, o, none⟩ ∧ base ≤ g)
theorem PrF.in_ {w' : World} {B base : Nat} {y : Pnt} {b : PA} (h : PrF w' B base y b) (hB : B ≤ w'.heap.size) : PrIn w' y b := ⟨h.1.more hB, h.2.1.more hB, h.2.2.1⟩
theorem pr0_f (w' : World) (B base : Nat) : PrF w' B base pr0 pa0 := ⟨Lie.nil, Lie.nil, Lie.nil, fun h => absurd rfl h⟩
theorem lf0_b (w' : World) (B : Nat) : LfB w' B lf0 la0 := ⟨Lie.nil, Lie.nil, Lie.nil, Lie.nil, Lie.nil⟩
def TkOut (w : World) (B : Nat) (xs : List UInt8) (i : Nat) (e : Ending) (w' : World) : Prop := ∃ a b, e = .returned (.tuple #[.agg (ndV (tkK xs i) (tkL xs i) a (tkP xs i) b), .int .i64 (tkN xs i : Int), .int .i64 (tkE xs i : Int)]) ∧ LfB w' B (tkL xs i) a ∧ PrF w' B w.heap.size (tkP xs i) b ∧ Below w.heap.size w w'
theorem TkOut.nil {w w' : World} {B : Nat} {xs : List UInt8} {i : Nat} (hl : i < xs.length) (h : srcJ xs i = 0) (hb : Below w.heap.size w w') : TkOut w B xs i (.returned (.tuple #[.agg (ndV 0 lf0 la0 pr0 pa0), .int .i64 ((i + 1 : Nat) : Int), .int .i64 ((0 : Nat) : Int)])) w' := by
  have hE : tkE xs i = 0 := by unfold tkE; rw [if_neg (by omega), if_pos h]
  have h2 : tkL xs i = lf0 := by unfold tkL; rw [if_neg (by omega)]
  have h4 : tkP xs i = pr0 := by unfold tkP; rw [if_neg (by omega)]
  have h5 : tkK xs i = 0 := by unfold tkK; rw [if_pos hE, h]
  have h3 : tkN xs i = i + 1 := by unfold tkN; rw [if_pos hE, if_pos h]
  exact ⟨la0, pa0, by rw [h2, h3, h4, h5, hE], by rw [h2]; exact lf0_b _ _, by rw [h4]; exact pr0_f _ _ _, hb⟩
theorem TkOut.par {w w' : World} {B : Nat} {xs : List UInt8} {i : Nat} {b : PA} (hl : i < xs.length) (h : srcJ xs i = 2) (h3 : errD xs (i + 1) 3 = 0) (hm : (vecJ xs (i + 1) 2).length % 4 = 0) (hp : parB (tkU xs i) = true) (hi : PrF w' B w.heap.size (tkU xs i) b) (hb : Below w.heap.size w w') : TkOut w B xs i (.returned (.tuple #[.agg (ndV 2 lf0 la0 (tkU xs i) b), .int .i64 (posD xs (i + 1) 3 : Int), .int .i64 ((0 : Nat) : Int)])) w' := by
  have hE : tkE xs i = 0 := by unfold tkE; rw [if_neg (by omega), if_neg (by omega), if_neg (by omega), if_neg (by omega), if_neg (by simp [h3]), if_pos ⟨hm, hp⟩]
  have h2 : tkL xs i = lf0 := by unfold tkL; rw [if_neg (by omega)]
  have h4 : tkP xs i = tkU xs i := by unfold tkP; rw [if_pos ⟨hE, h⟩]
  have h5 : tkK xs i = 2 := by unfold tkK; rw [if_pos hE, h]
  have h6 : tkN xs i = posD xs (i + 1) 3 := by unfold tkN; rw [if_pos hE, if_neg (by omega), if_neg (by omega)]
  exact ⟨la0, b, by rw [h2, h6, h4, h5, hE], by rw [h2]; exact lf0_b _ _, by rw [h4]; exact hi, hb⟩
end Go.Proofs.Ythooibljnfnnhaa
end
section
namespace Go.Proofs.Ythooibljnfnnhaa
open Go Go.RowKit
set_option linter.unusedVariables false
set_option linter.unusedSimpArgs false
/-- A leaf's bytes. -/
def leafBy (x : Lf) : List UInt8 := aheadB x ++ vecBytes x.sig
/-- Numbers of four bytes. -/
def lateBy (l : List Int) : List UInt8 := l.flatMap fun v => beBytes 4 v.toNat
theorem lateBy_length (l : List Int) : (lateBy l).length = 4 * l.length := by
  induction l with
  | nil => rfl
  | cons v l ih => rw [lateBy, List.flatMap_cons, List.length_append]; rw [lateBy] at ih; rw [ih, beBytes_length, List.length_cons]; omega
def nodeBy (k : Nat) (x : Lf) (u : Pnt) : List UInt8 := if k = 1 then [1] ++ leafBy x else if k = 2 then ([2] ++ vecBytes u.box) ++ (vecBytes u.hash ++ vecBytes (lateBy u.late)) else [0]
def Pr200 (u : Pnt) : Prop := u.box.length ≤ 200 ∧ u.hash.length ≤ 200 ∧ u.late.length ≤ 200
end Go.Proofs.Ythooibljnfnnhaa
end
