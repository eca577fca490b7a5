/-
  Texts of this claim in one file: Ref16a, Ref16b, Ref16c, Ref16d, Ref16e, Ref16f, Ref16n, Ref16i, Ref16k, Ref16l, Ref16m, Ref16g.
-/
import Derived.Test.YtgehfbcagaaggaaGreatDoorPk1
import Derived.Test.YtgehfbcagaaggaaGreatDoorPk2
import Derived.Test.YtgehfbcagaaggaaGreatDoorPk3
import Derived.Test.YtgehfbcagaaggaaGreatDoorPk28
import Derived.Test.YtgehfbcagaaggaaGreatDoorPk4
import Derived.Deep.MidRow
import Derived.Test.YtgehfbcagaaggaaGreatDoorPk8
import Derived.Test.YtgehfbcagaaggaaGreatDoorPk9
import Derived.Test.YtgehfbcagaaggaaGreatDoorPk7
import Derived.Test.YtgehfbcagaaggaaGreatDoorPk6
section
namespace Go.Proofs.YtgehfbcagaaggaaGreatDoor
open Go Go.RowKit
set_option linter.unusedVariables false
set_option linter.unusedSimpArgs false
/-- A leaf's, a node's contents; where their bytes lie. -/
structure Lf where
  box : List UInt8
  sign : List UInt8
  ident : List UInt8
  src : Nat
  par : List UInt8
  sig : List UInt8
structure LA where
  a0 : Option Addr
  a1 : Option Addr
  a2 : Option Addr
  a3 : Option Addr
  a4 : Option Addr
  c0 : Nat
  c1 : Nat
  c2 : Nat
  c3 : Nat
  c4 : Nat
structure Pnt where
  box : List UInt8
  hash : List UInt8
  late : List Int
structure PA where
  a0 : Option Addr
  a1 : Option Addr
  a2 : Option Addr
  c0 : Nat
  c1 : Nat
  c2 : Nat
abbrev LfT : TypeId := 24
abbrev PrT : TypeId := 29
abbrev NdT : TypeId := 31
abbrev lfV (x : Lf) (a : LA) : Array Value := #[.slice a.a0 x.box.length a.c0, .slice a.a1 x.sign.length a.c1, .slice a.a2 x.ident.length a.c2, .int .u8 (x.src : Int), .slice a.a3 x.par.length a.c3, .slice a.a4 x.sig.length a.c4]
abbrev prV (x : Pnt) (a : PA) : Array Value := #[.slice a.a0 x.box.length a.c0, .slice a.a1 x.hash.length a.c1, .slice a.a2 x.late.length a.c2]
abbrev ndV (k : Nat) (x : Lf) (a : LA) (y : Pnt) (b : PA) : Array Value := #[.int .u8 (k : Int), .slice a.a0 x.box.length a.c0, .slice a.a1 x.sign.length a.c1, .slice a.a2 x.ident.length a.c2, .int .u8 (x.src : Int), .slice a.a3 x.par.length a.c3, .slice a.a4 x.sig.length a.c4, .slice b.a0 y.box.length b.c0, .slice b.a1 y.hash.length b.c1, .slice b.a2 y.late.length b.c2]
/-- It lies in memory. -/
def LfIn (w : World) (x : Lf) (a : LA) : Prop := Lie w w.heap.size a.a0 (bvs x.box) ∧ Lie w w.heap.size a.a1 (bvs x.sign) ∧ Lie w w.heap.size a.a2 (bvs x.ident) ∧ Lie w w.heap.size a.a3 (bvs x.par) ∧ Lie w w.heap.size a.a4 (bvs x.sig)
def PrIn (w : World) (y : Pnt) (b : PA) : Prop := Lie w w.heap.size b.a0 (bvs y.box) ∧ Lie w w.heap.size b.a1 (bvs y.hash) ∧ Lie w w.heap.size b.a2 (izs y.late)
theorem lie_on {w w' : World} {A : Option Addr} {xs : List Value} (h : Lie w w.heap.size A xs) (hb : Below w.heap.size w w') : Lie w' w'.heap.size A xs := (h.below hb).more hb.size
theorem LfIn.on {w w' : World} {x : Lf} {a : LA} (h : LfIn w x a) (hb : Below w.heap.size w w') : LfIn w' x a := ⟨lie_on h.1 hb, lie_on h.2.1 hb, lie_on h.2.2.1 hb, lie_on h.2.2.2.1 hb, lie_on h.2.2.2.2 hb⟩
theorem PrIn.on {w w' : World} {x : Pnt} {a : PA} (h : PrIn w x a) (hb : Below w.heap.size w w') : PrIn w' x a := ⟨lie_on h.1 hb, lie_on h.2.1 hb, lie_on h.2.2 hb⟩
/-- No more than is looked at. -/
def LfLe (x : Lf) : Prop := x.box.length ≤ 140737488355328 ∧ x.sign.length ≤ 140737488355328 ∧ x.ident.length ≤ 140737488355328 ∧ x.par.length ≤ 140737488355328 ∧ x.sig.length ≤ 140737488355328 ∧ x.src < 256
def PrLe (y : Pnt) : Prop := y.box.length ≤ 140737488355328 ∧ y.hash.length ≤ 140737488355328 ∧ y.late.length ≤ 140737488355328
theorem infoLf {x : Lf} {a : LA} : (Tryz.prog.info? LfT).map (·.size) = some (lfV x a).size := by kernel_rfl
theorem infoPr {y : Pnt} {b : PA} : (Tryz.prog.info? PrT).map (·.size) = some (prV y b).size := by kernel_rfl
theorem infoNd16 {k : Nat} {x : Lf} {a : LA} {y : Pnt} {b : PA} : (Tryz.prog.info? NdT).map (·.size) = some (ndV k x a y b).size := by kernel_rfl
def leafN (b s i r p g : Nat) : Bool := decide (b = 32) && decide (s = 32) && decide (0 < i) && decide (i ≤ 64) && decide (0 < r) && decide (r < 4) && (decide (p = 0) || (decide (r = 3) && decide (p = 32))) && decide (g = 64)
def leafB (x : Lf) : Bool := leafN x.box.length x.sign.length x.ident.length x.src x.par.length x.sig.length
set_option maxHeartbeats 2000000 in
theorem RightLeaf16_gen (A0 A1 A2 A3 A4 : Option Addr) (b s i r p g k0 k1 k2 k3 k4 : Nat) (w : World) (hr : r < 256) :
    Calls Tryz.prog 9 #[.agg #[.slice A0 b k0, .slice A1 s k1, .slice A2 i k2, .int .u8 (r : Int), .slice A3 p k3, .slice A4 g k4]] w (RetB w (leafN b s i r p g)) := by
  have H1 := hid (heap_alloc_new w (.cells #[.slice A0 b k0, .slice A1 s k1, .slice A2 i k2, .int .u8 (r : Int), .slice A3 p k3, .slice A4 g k4] LfT))
  have c0 := cell_of H1.out 0 _ rfl; have c1 := cell_of H1.out 1 _ rfl; have c2 := cell_of H1.out 2 _ rfl; have c3 := cell_of H1.out 3 _ rfl; have c4 := cell_of H1.out 4 _ rfl; have c5 := cell_of H1.out 5 _ rfl
  go_enter Tryz.func9, Tryz.ntmps9
  go_wp2
  all_goals (go_ret; refine ⟨congrArg (fun b => Ending.returned (.bool b)) ?_, (Below.refl _ _).alloc (Nat.le_refl _) _⟩; clear c0 c1 c2 c3 c4 c5 H1; show (_ : Bool) = _; rw [Bool.eq_iff_iff]; simp [leafN]; try omega)
theorem RightLeaf16_any (x : Lf) (a : LA) (w : World) (hr : x.src < 256) : Calls Tryz.prog 9 #[.agg (lfV x a)] w (RetB w (leafB x)) := RightLeaf16_gen _ _ _ _ _ _ _ _ _ _ _ _ _ _ _ _ w hr
def sameLf (x y : Lf) : Bool := x.box == y.box && x.sign == y.sign && x.ident == y.ident && x.src == y.src && x.par == y.par && x.sig == y.sig
theorem SameB (A : Option Addr) (xs : List UInt8) (c : Nat) (A2 : Option Addr) (ys : List UInt8) (c2 : Nat) (W : World) (h1 : Lie W W.heap.size A (bvs xs)) (h2 : Lie W W.heap.size A2 (bvs ys)) (h3 : xs.length ≤ 140737488355328) :
    Calls Tryz.prog 14 #[.slice A xs.length c, .slice A2 ys.length c2] W (RetB W (xs == ys)) := (Same_any A xs c A2 ys c2 W _ _ h1 h2 h3).mono fun e w2 ⟨he, m, hm⟩ => ⟨he, by rw [hm]; exact belowB_drewN (Below.refl _ _) m⟩
set_option maxHeartbeats 2000000 in
theorem SameLeaf16_any (x y : Lf) (a b : LA) (w : World) (hx : LfIn w x a) (hy : LfIn w y b) (hl : LfLe x) : Calls Tryz.prog 10 #[.agg (lfV x a), .agg (lfV y b)] w (RetB w (sameLf x y)) := by
  have K1 : Hid (((w.alloc (.cells (lfV x a) LfT)).alloc (.cells (lfV y b) LfT)).heap[w.heap.size]? = some (.cells (lfV x a) LfT (0, 0))) := hid ((Below.heap_alloc _ _ w.heap.size (by simp)).trans (heap_alloc_new w (.cells (lfV x a) LfT)))
  have K2 : Hid (((w.alloc (.cells (lfV x a) LfT)).alloc (.cells (lfV y b) LfT)).heap[w.heap.size + 1]? = some (.cells (lfV y b) LfT (0, 0))) := hid (by have h := heap_alloc_new (w.alloc (.cells (lfV x a) LfT)) (.cells (lfV y b) LfT); simpa using h)
  have HB : Hid (Below w.heap.size w ((w.alloc (.cells (lfV x a) LfT)).alloc (.cells (lfV y b) LfT))) := hid (((Below.refl _ _).alloc (Nat.le_refl _) _).alloc (by simp) _)
  have HX := hid (hx.on HB.out); have HY := hid (hy.on HB.out)
  have HC1 : Hid (∀ W : World, LfIn W x a → LfIn W y b → Calls Tryz.prog 14 #[.slice a.a0 x.box.length a.c0, .slice b.a0 y.box.length b.c0] W (RetB W (x.box == y.box))) := hid fun W h1 h2 => SameB _ _ _ _ _ _ W h1.1 h2.1 hl.1
  have HC2 : Hid (∀ W : World, LfIn W x a → LfIn W y b → Calls Tryz.prog 14 #[.slice a.a1 x.sign.length a.c1, .slice b.a1 y.sign.length b.c1] W (RetB W (x.sign == y.sign))) := hid fun W h1 h2 => SameB _ _ _ _ _ _ W h1.2.1 h2.2.1 hl.2.1
  have HC3 : Hid (∀ W : World, LfIn W x a → LfIn W y b → Calls Tryz.prog 14 #[.slice a.a2 x.ident.length a.c2, .slice b.a2 y.ident.length b.c2] W (RetB W (x.ident == y.ident))) := hid fun W h1 h2 => SameB _ _ _ _ _ _ W h1.2.2.1 h2.2.2.1 hl.2.2.1
  have HC4 : Hid (∀ W : World, LfIn W x a → LfIn W y b → Calls Tryz.prog 14 #[.slice a.a3 x.par.length a.c3, .slice b.a3 y.par.length b.c3] W (RetB W (x.par == y.par))) := hid fun W h1 h2 => SameB _ _ _ _ _ _ W h1.2.2.2.1 h2.2.2.2.1 hl.2.2.2.1
  have HC5 : Hid (∀ W : World, LfIn W x a → LfIn W y b → Calls Tryz.prog 14 #[.slice a.a4 x.sig.length a.c4, .slice b.a4 y.sig.length b.c4] W (RetB W (x.sig == y.sig))) := hid fun W h1 h2 => SameB _ _ _ _ _ _ W h1.2.2.2.2 h2.2.2.2.2 hl.2.2.2.2.1
  have HS : Hid (sameLf x y = (x.box == y.box && x.sign == y.sign && x.ident == y.ident && x.src == y.src && x.par == y.par && x.sig == y.sig)) := hid rfl
  obtain ⟨r, hrr⟩ : ∃ t, t = sameLf x y := ⟨_, rfl⟩
  rw [← hrr] at HS ⊢
  obtain ⟨q1, hq1⟩ : ∃ t, t = (x.box == y.box) := ⟨_, rfl⟩
  rw [← hq1] at HC1 HS
  obtain ⟨q2, hq2⟩ : ∃ t, t = (x.sign == y.sign) := ⟨_, rfl⟩
  rw [← hq2] at HC2 HS
  obtain ⟨q3, hq3⟩ : ∃ t, t = (x.ident == y.ident) := ⟨_, rfl⟩
  rw [← hq3] at HC3 HS
  obtain ⟨q4, hq4⟩ : ∃ t, t = (x.par == y.par) := ⟨_, rfl⟩
  rw [← hq4] at HC4 HS
  obtain ⟨q5, hq5⟩ : ∃ t, t = (x.sig == y.sig) := ⟨_, rfl⟩
  rw [← hq5] at HC5 HS
  have hsi : ((x.src : Int) == (y.src : Int)) = (x.src == y.src) := by rw [Bool.eq_iff_iff, beq_iff_eq, beq_iff_eq]; omega
  obtain ⟨q6, hq6⟩ : ∃ t, t = (x.src == y.src) := ⟨_, rfl⟩
  rw [← hq6] at hsi HS
  clear hrr hx hy hl hq1 hq2 hq3 hq4 hq5 hq6
  go_enter Tryz.func10, Tryz.ntmps10
  have c1 := cell_of K1.out 0 _ rfl; have c2 := cell_of K2.out 0 _ rfl
  go_wp2_with fail
  refine (HC1.out _ HX.out HY.out).mono ?_
  rintro e w1 ⟨rfl, hb⟩
  have HX2 := hid (HX.out.on hb); have HY2 := hid (HY.out.on hb); have HB2 := hid (HB.out.trans (hb.mono HB.out.size))
  have K12 := hid ((hb.block _ (block_lt K1.out)).trans K1.out); have K22 := hid ((hb.block _ (block_lt K2.out)).trans K2.out)
  clear hb HX HY HB K1 K2 c1 c2 HC1
  have HX := HX2; have HY := HY2; have HB := HB2; have K1 := K12; have K2 := K22
  clear HX2 HY2 HB2 K12 K22
  cases q1 with
  | false =>
    go_wp2
    go_ret
    exact ⟨by rw [HS.out]; rfl, HB.out⟩
  | true =>
    have c1 := cell_of K1.out 1 _ rfl; have c2 := cell_of K2.out 1 _ rfl
    go_wp2_with fail
    refine (HC2.out _ HX.out HY.out).mono ?_
    rintro e w2 ⟨rfl, hb⟩
    have HX2 := hid (HX.out.on hb); have HY2 := hid (HY.out.on hb); have HB2 := hid (HB.out.trans (hb.mono HB.out.size))
    have K12 := hid ((hb.block _ (block_lt K1.out)).trans K1.out); have K22 := hid ((hb.block _ (block_lt K2.out)).trans K2.out)
    clear hb HX HY HB K1 K2 c1 c2 HC2
    have HX := HX2; have HY := HY2; have HB := HB2; have K1 := K12; have K2 := K22
    clear HX2 HY2 HB2 K12 K22
    cases q2 with
    | false =>
      go_wp2
      go_ret
      exact ⟨by rw [HS.out]; rfl, HB.out⟩
    | true =>
      have c1 := cell_of K1.out 2 _ rfl; have c2 := cell_of K2.out 2 _ rfl
      go_wp2_with fail
      refine (HC3.out _ HX.out HY.out).mono ?_
      rintro e w3 ⟨rfl, hb⟩
      have HX2 := hid (HX.out.on hb); have HY2 := hid (HY.out.on hb); have HB2 := hid (HB.out.trans (hb.mono HB.out.size))
      have K12 := hid ((hb.block _ (block_lt K1.out)).trans K1.out); have K22 := hid ((hb.block _ (block_lt K2.out)).trans K2.out)
      clear hb HX HY HB K1 K2 c1 c2 HC3
      have HX := HX2; have HY := HY2; have HB := HB2; have K1 := K12; have K2 := K22
      clear HX2 HY2 HB2 K12 K22
      cases q3 with
      | false =>
        have c3 := cell_of K1.out 3 _ rfl; have c4 := cell_of K2.out 3 _ rfl
        go_wp2
        go_ret
        exact ⟨by rw [HS.out]; rfl, HB.out⟩
      | true =>
        cases q6 with
        | false =>
          have c3 := cell_of K1.out 3 _ rfl; have c4 := cell_of K2.out 3 _ rfl
          go_wp2
          go_ret
          exact ⟨by rw [HS.out]; rfl, HB.out⟩
        | true =>
          have c1 := cell_of K1.out 4 _ rfl; have c2 := cell_of K2.out 4 _ rfl; have c3 := cell_of K1.out 3 _ rfl; have c4 := cell_of K2.out 3 _ rfl
          go_wp2_with fail
          refine (HC4.out _ HX.out HY.out).mono ?_
          rintro e w4 ⟨rfl, hb⟩
          have HX2 := hid (HX.out.on hb); have HY2 := hid (HY.out.on hb); have HB2 := hid (HB.out.trans (hb.mono HB.out.size))
          have K12 := hid ((hb.block _ (block_lt K1.out)).trans K1.out); have K22 := hid ((hb.block _ (block_lt K2.out)).trans K2.out)
          clear hb HX HY HB K1 K2 c1 c2 HC4 c3 c4
          have HX := HX2; have HY := HY2; have HB := HB2; have K1 := K12; have K2 := K22
          clear HX2 HY2 HB2 K12 K22
          cases q4 with
          | false =>
            go_wp2
            go_ret
            exact ⟨by rw [HS.out]; rfl, HB.out⟩
          | true =>
            have c1 := cell_of K1.out 5 _ rfl; have c2 := cell_of K2.out 5 _ rfl
            go_wp2_with fail
            refine (HC5.out _ HX.out HY.out).mono ?_
            rintro e w5 ⟨rfl, hb⟩
            have HX2 := hid (HX.out.on hb); have HY2 := hid (HY.out.on hb); have HB2 := hid (HB.out.trans (hb.mono HB.out.size))
            have K12 := hid ((hb.block _ (block_lt K1.out)).trans K1.out); have K22 := hid ((hb.block _ (block_lt K2.out)).trans K2.out)
            clear hb HX HY HB K1 K2 c1 c2 HC5
            have HX := HX2; have HY := HY2; have HB := HB2; have K1 := K12; have K2 := K22
            clear HX2 HY2 HB2 K12 K22
            go_wp2
            go_ret
            exact ⟨by rw [HS.out]; rfl, HB.out⟩
end Go.Proofs.YtgehfbcagaaggaaGreatDoor
end
section
namespace Go.Proofs.YtgehfbcagaaggaaGreatDoor
open Go Go.RowKit
set_option linter.unusedVariables false
set_option linter.unusedSimpArgs false
theorem load_leaf {W : World} {g k : Nat} {x : Lf} {a : LA} {y : Pnt} {b : PA} (K : W.heap[g]? = some (.cells (ndV k x a y b) NdT (0, 0))) : (Instr.loadAt LfT (.pointer (some ⟨g, 1, none⟩))).run Tryz.prog W = .ok (.agg (lfV x a)) W :=
  run_loadAt_mid W g 1 LfT (lfV x a).toList _ (fun j v hv => by
    have hj := (List.getElem?_eq_some_iff.1 hv).1
    have h := cell_of K (1 + j) v
    apply h
    rcases j with _ | _ | _ | _ | _ | _ | j
    iterate 6 exact hv
    simp at hj; omega) Tryz.underlying24 rfl infoLf
theorem load_par {W : World} {g k : Nat} {x : Lf} {a : LA} {y : Pnt} {b : PA} (K : W.heap[g]? = some (.cells (ndV k x a y b) NdT (0, 0))) : (Instr.loadAt PrT (.pointer (some ⟨g, 7, none⟩))).run Tryz.prog W = .ok (.agg (prV y b)) W :=
  run_loadAt_mid W g 7 PrT (prV y b).toList _ (fun j v hv => by
    have hj := (List.getElem?_eq_some_iff.1 hv).1
    have h := cell_of K (7 + j) v
    apply h
    rcases j with _ | _ | _ | j
    iterate 3 exact hv
    simp at hj; omega) Tryz.underlying29 rfl infoPr
/-- Two nodes, field by field. -/
def sameNd (k : Nat) (x : Lf) (u : Pnt) (k2 : Nat) (y : Lf) (v : Pnt) : Bool := k == k2 && sameLf x y && u.box == v.box && u.hash == v.hash && u.late == v.late
end Go.Proofs.YtgehfbcagaaggaaGreatDoor
end
section
namespace Go.Proofs.YtgehfbcagaaggaaGreatDoor
open Go Go.RowKit
set_option linter.unusedVariables false
set_option linter.unusedSimpArgs false
/-- Numbers from 0 to 65535 that rise. -/
def badL (l : List Int) (i : Nat) : Bool := decide (l.getD i 0 < 0) || decide (65535 < l.getD i 0) || (decide (0 < i) && decide (l.getD i 0 ≤ l.getD (i - 1) 0))
def riseB (l : List Int) : Bool := (List.range l.length).all fun i => !badL l i
def parB (y : Pnt) : Bool := riseB y.late && (decide (y.box.length = 32) && (decide (y.hash.length = 0) || decide (y.hash.length = 32)))
theorem rise_yes {l : List Int} (h : ∀ i, i < l.length → badL l i = false) : riseB l = true := by
  unfold riseB
  rw [List.all_eq_true]
  intro i hi
  rw [h i (List.mem_range.1 hi)]; rfl
theorem rise_no {l : List Int} {i : Nat} (hi : i < l.length) (h : badL l i = true) : riseB l = false := by
  unfold riseB
  rw [Bool.eq_false_iff]
  intro hc
  have h2 := List.all_eq_true.1 hc i (List.mem_range.2 hi)
  rw [h] at h2; cases h2
theorem wrap64_in' {x : Int} (h1 : -1000000000000000000 ≤ x) (h2 : x ≤ 1000000000000000000) : wrap64 x = x := by unfold wrap64; omega
theorem getD_of {l : List Int} {i : Nat} (h : i < l.length) : l.getD i 0 = l[i] := by rw [List.getD_eq_getElem?_getD, List.getElem?_eq_getElem h]; rfl
end Go.Proofs.YtgehfbcagaaggaaGreatDoor
end
section
namespace Go.Proofs.YtgehfbcagaaggaaGreatDoor
open Go Go.RowKit
set_option linter.unusedVariables false
set_option linter.unusedSimpArgs false
abbrev lf0 : Lf := ⟨[], [], [], 0, [], []⟩
abbrev la0 : LA := ⟨none, none, none, none, none, 0, 0, 0, 0, 0⟩
abbrev pr0 : Pnt := ⟨[], [], []⟩
abbrev pa0 : PA := ⟨none, none, none, 0, 0, 0⟩
theorem lf0_in (w : World) : LfIn w lf0 la0 := ⟨Lie.nil, Lie.nil, Lie.nil, Lie.nil, Lie.nil⟩
theorem pr0_in (w : World) : PrIn w pr0 pa0 := ⟨Lie.nil, Lie.nil, Lie.nil⟩
theorem lf0_le : LfLe lf0 := by unfold LfLe; decide
/-- Three new blocks. -/
theorem three {w : World} (o1 o2 o3 : Obj) : ((((w.alloc o1).alloc o2).alloc o3).drew.heap[w.heap.size]? = some o1) ∧ ((((w.alloc o1).alloc o2).alloc o3).drew.heap[w.heap.size + 1]? = some o2) ∧ ((((w.alloc o1).alloc o2).alloc o3).drew.heap[w.heap.size + 1 + 1]? = some o3) ∧ Below w.heap.size w (((w.alloc o1).alloc o2).alloc o3).drew := by
  have h2 := heap_alloc_new (w.alloc o1) o2
  have h3 := heap_alloc_new ((w.alloc o1).alloc o2) o3
  simp only [World.size_alloc] at h2 h3
  refine ⟨?_, ?_, h3, ((((Below.refl _ _).alloc (Nat.le_refl _) _).alloc (by simp) _).alloc (by simp; omega) _).drew⟩
  · exact (Below.heap_alloc _ _ w.heap.size (by simp; omega)).trans ((Below.heap_alloc _ _ w.heap.size (by simp)).trans (heap_alloc_new w o1))
  · exact (Below.heap_alloc _ _ (w.heap.size + 1) (by simp)).trans h2
def smallN (n0 n1 n2 n3 n4 n5 n6 n7 : Nat) : Bool := decide (n0 ≤ 200) && decide (n1 ≤ 200) && decide (n2 ≤ 200) && decide (n3 ≤ 200) && decide (n4 ≤ 200) && decide (n5 ≤ 200) && decide (n6 ≤ 200) && decide (n7 ≤ 60)
def smallB (x : Lf) (u : Pnt) : Bool := smallN x.box.length x.sign.length x.ident.length x.par.length x.sig.length u.box.length u.hash.length u.late.length
set_option maxHeartbeats 4000000 in
theorem Small16_any (k : Nat) (x : Lf) (a : LA) (u : Pnt) (p : PA) (w : World) : Calls Tryz.prog 7 #[.agg (ndV k x a u p)] w (RetB w (smallB x u)) := by
  have HS : Hid (smallB x u = smallN x.box.length x.sign.length x.ident.length x.par.length x.sig.length u.box.length u.hash.length u.late.length) := hid rfl
  obtain ⟨r, hrr⟩ : ∃ t, t = smallB x u := ⟨_, rfl⟩
  rw [← hrr] at HS ⊢
  clear hrr
  have H1 := hid (heap_alloc_new w (.cells (ndV k x a u p) NdT))
  have x0 := cell_of H1.out 0 _ rfl; have x1 := cell_of H1.out 1 _ rfl; have x2 := cell_of H1.out 2 _ rfl; have x3 := cell_of H1.out 3 _ rfl; have x4 := cell_of H1.out 4 _ rfl; have x5 := cell_of H1.out 5 _ rfl; have x6 := cell_of H1.out 6 _ rfl; have x7 := cell_of H1.out 7 _ rfl; have x8 := cell_of H1.out 8 _ rfl; have x9 := cell_of H1.out 9 _ rfl
  go_enter Tryz.func7, Tryz.ntmps7
  go_wp2
  go_region
  all_goals clear x0 x1 x2 x3 x4 x5 x6 x7 x8 x9 H1

  · have T := three (w := w) (.cells (ndV k x a u p) NdT) (.cells (lfV x a) LfT) (.cells (prV u p) PrT)
    generalize hW : World.drew _ = W
    have T2 : W = _ := hW.symm
    have B0 : Hid (Below w.heap.size w W) := hid (by rw [T2]; exact T.2.2.2)
    have K3 : Hid (W.heap[w.heap.size + 1]? = some (.cells (lfV x a) LfT (0, 0))) := hid (by rw [T2]; exact T.2.1)
    have K4 : Hid (W.heap[w.heap.size + 1 + 1]? = some (.cells (prV u p) PrT (0, 0))) := hid (by rw [T2]; exact T.2.2.1)
    clear T T2 hW
    have d0 := cell_of K3.out 0 _ rfl; have d1 := cell_of K3.out 1 _ rfl; have d2 := cell_of K3.out 2 _ rfl; have d3 := cell_of K3.out 4 _ rfl; have d4 := cell_of K3.out 5 _ rfl
    have d5 := cell_of K4.out 0 _ rfl; have d6 := cell_of K4.out 1 _ rfl; have d7 := cell_of K4.out 2 _ rfl
    clear K3 K4
    have e0 : W.cell? ⟨w.heap.size + 1, 0, none⟩ = some (.slice a.a0 x.box.length a.c0) := d0
    obtain ⟨m0, hm0⟩ : ∃ t, t = x.box.length := ⟨_, rfl⟩
    rw [← hm0] at e0 HS
    clear d0 hm0
    have e1 : W.cell? ⟨w.heap.size + 1, 1, none⟩ = some (.slice a.a1 x.sign.length a.c1) := d1
    obtain ⟨m1, hm1⟩ : ∃ t, t = x.sign.length := ⟨_, rfl⟩
    rw [← hm1] at e1 HS
    clear d1 hm1
    have e2 : W.cell? ⟨w.heap.size + 1, 2, none⟩ = some (.slice a.a2 x.ident.length a.c2) := d2
    obtain ⟨m2, hm2⟩ : ∃ t, t = x.ident.length := ⟨_, rfl⟩
    rw [← hm2] at e2 HS
    clear d2 hm2
    have e3 : W.cell? ⟨w.heap.size + 1, 4, none⟩ = some (.slice a.a3 x.par.length a.c3) := d3
    obtain ⟨m3, hm3⟩ : ∃ t, t = x.par.length := ⟨_, rfl⟩
    rw [← hm3] at e3 HS
    clear d3 hm3
    have e4 : W.cell? ⟨w.heap.size + 1, 5, none⟩ = some (.slice a.a4 x.sig.length a.c4) := d4
    obtain ⟨m4, hm4⟩ : ∃ t, t = x.sig.length := ⟨_, rfl⟩
    rw [← hm4] at e4 HS
    clear d4 hm4
    have e5 : W.cell? ⟨w.heap.size + 1 + 1, 0, none⟩ = some (.slice p.a0 u.box.length p.c0) := d5
    obtain ⟨m5, hm5⟩ : ∃ t, t = u.box.length := ⟨_, rfl⟩
    rw [← hm5] at e5 HS
    clear d5 hm5
    have e6 : W.cell? ⟨w.heap.size + 1 + 1, 1, none⟩ = some (.slice p.a1 u.hash.length p.c1) := d6
    obtain ⟨m6, hm6⟩ : ∃ t, t = u.hash.length := ⟨_, rfl⟩
    rw [← hm6] at e6 HS
    clear d6 hm6
    have e7 : W.cell? ⟨w.heap.size + 1 + 1, 2, none⟩ = some (.slice p.a2 u.late.length p.c2) := d7
    obtain ⟨m7, hm7⟩ : ∃ t, t = u.late.length := ⟨_, rfl⟩
    rw [← hm7] at e7 HS
    clear d7 hm7
    go_wp2
    all_goals (go_ret; refine ⟨congrArg (fun b => Ending.returned (.bool b)) ?_, B0.out⟩; have hs := HS.out; clear e0 e1 e2 e3 e4 e5 e6 e7; show (_ : Bool) = _; rw [hs, Bool.eq_iff_iff]; simp [smallN]; try omega)
  · have T := three (w := w) (.cells (ndV k x a u p) NdT) (.cells (prV u p) PrT) (.cells (lfV x a) LfT)
    generalize hW : World.drew _ = W
    have T2 : W = _ := hW.symm
    have B0 : Hid (Below w.heap.size w W) := hid (by rw [T2]; exact T.2.2.2)
    have K3 : Hid (W.heap[w.heap.size + 1 + 1]? = some (.cells (lfV x a) LfT (0, 0))) := hid (by rw [T2]; exact T.2.2.1)
    have K4 : Hid (W.heap[w.heap.size + 1]? = some (.cells (prV u p) PrT (0, 0))) := hid (by rw [T2]; exact T.2.1)
    clear T T2 hW
    have d0 := cell_of K3.out 0 _ rfl; have d1 := cell_of K3.out 1 _ rfl; have d2 := cell_of K3.out 2 _ rfl; have d3 := cell_of K3.out 4 _ rfl; have d4 := cell_of K3.out 5 _ rfl
    have d5 := cell_of K4.out 0 _ rfl; have d6 := cell_of K4.out 1 _ rfl; have d7 := cell_of K4.out 2 _ rfl
    clear K3 K4
    have e0 : W.cell? ⟨w.heap.size + 1 + 1, 0, none⟩ = some (.slice a.a0 x.box.length a.c0) := d0
    obtain ⟨m0, hm0⟩ : ∃ t, t = x.box.length := ⟨_, rfl⟩
    rw [← hm0] at e0 HS
    clear d0 hm0
    have e1 : W.cell? ⟨w.heap.size + 1 + 1, 1, none⟩ = some (.slice a.a1 x.sign.length a.c1) := d1
    obtain ⟨m1, hm1⟩ : ∃ t, t = x.sign.length := ⟨_, rfl⟩
    rw [← hm1] at e1 HS
    clear d1 hm1
    have e2 : W.cell? ⟨w.heap.size + 1 + 1, 2, none⟩ = some (.slice a.a2 x.ident.length a.c2) := d2
    obtain ⟨m2, hm2⟩ : ∃ t, t = x.ident.length := ⟨_, rfl⟩
    rw [← hm2] at e2 HS
    clear d2 hm2
    have e3 : W.cell? ⟨w.heap.size + 1 + 1, 4, none⟩ = some (.slice a.a3 x.par.length a.c3) := d3
    obtain ⟨m3, hm3⟩ : ∃ t, t = x.par.length := ⟨_, rfl⟩
    rw [← hm3] at e3 HS
    clear d3 hm3
    have e4 : W.cell? ⟨w.heap.size + 1 + 1, 5, none⟩ = some (.slice a.a4 x.sig.length a.c4) := d4
    obtain ⟨m4, hm4⟩ : ∃ t, t = x.sig.length := ⟨_, rfl⟩
    rw [← hm4] at e4 HS
    clear d4 hm4
    have e5 : W.cell? ⟨w.heap.size + 1, 0, none⟩ = some (.slice p.a0 u.box.length p.c0) := d5
    obtain ⟨m5, hm5⟩ : ∃ t, t = u.box.length := ⟨_, rfl⟩
    rw [← hm5] at e5 HS
    clear d5 hm5
    have e6 : W.cell? ⟨w.heap.size + 1, 1, none⟩ = some (.slice p.a1 u.hash.length p.c1) := d6
    obtain ⟨m6, hm6⟩ : ∃ t, t = u.hash.length := ⟨_, rfl⟩
    rw [← hm6] at e6 HS
    clear d6 hm6
    have e7 : W.cell? ⟨w.heap.size + 1, 2, none⟩ = some (.slice p.a2 u.late.length p.c2) := d7
    obtain ⟨m7, hm7⟩ : ∃ t, t = u.late.length := ⟨_, rfl⟩
    rw [← hm7] at e7 HS
    clear d7 hm7
    go_wp2
    all_goals (go_ret; refine ⟨congrArg (fun b => Ending.returned (.bool b)) ?_, B0.out⟩; have hs := HS.out; clear e0 e1 e2 e3 e4 e5 e6 e7; show (_ : Bool) = _; rw [hs, Bool.eq_iff_iff]; simp [smallN]; try omega)
def emptyLf (x : Lf) : Bool := sameNd 0 x pr0 0 lf0 pr0
def emptyPr (u : Pnt) : Bool := sameNd 0 lf0 u 0 lf0 pr0
def rightB (k : Nat) (x : Lf) (u : Pnt) : Bool := if k = 0 then emptyLf x && emptyPr u else if k = 1 then leafB x && emptyPr u else if k = 2 then parB u && emptyLf x else false
theorem build_nd (W : World) : (Instr.build NdT #[]).run Tryz.prog W = .ok (.agg (ndV 0 lf0 la0 pr0 pa0)) W := run_build W NdT _ _ (by kernel_rfl)
end Go.Proofs.YtgehfbcagaaggaaGreatDoor
end
section
namespace Go.Proofs.YtgehfbcagaaggaaGreatDoor
open Go Go.RowKit
set_option linter.unusedVariables false
set_option linter.unusedSimpArgs false
/-- Bytes that lie somewhere. -/
def RetQ (W : World) (xs : List UInt8) (e : Ending) (w' : World) : Prop := ∃ A c, e = .returned (.slice A xs.length c) ∧ Sq w' w'.heap.size A c (bvs xs) ∧ Below W.heap.size W w'
theorem retQ_of {P : Program} {f : FuncId} {args : Array Value} {W : World} {xs : List UInt8} (h : Calls P f args W fun e w' => ∃ v, e = .returned v ∧ OwnB w' W.heap.size v xs ∧ W.grownBy w' none) : Calls P f args W (RetQ W xs) := h.mono fun e w' ⟨v, he, ho, hg⟩ => by
  obtain ⟨A, c, rfl, hs⟩ := own_sl ho
  exact ⟨A, c, he, hs.sq, (Below.refl _ _).grown hg (Nat.le_refl _) (fun _ h => by cases h)⟩
theorem VecQ (A : Option Addr) (ys : List UInt8) (c : Nat) (W : World) (hn : ys.length < 1073741824) (hA : Lie W W.heap.size A (bvs ys)) : Calls Tryz.prog 27 #[.slice A ys.length c] W (RetQ W (vecBytes ys)) := retQ_of (RefVec_any A ys c W hn hA)
theorem NumQ (s n : Nat) (W : World) (hs : s ≤ 8) (hn : n < 18446744073709551616) : Calls Tryz.prog 28 #[.int .i64 (s : Int), .int .u64 (n : Int)] W (RetQ W (beBytes s n)) := retQ_of (RefNum_any s n W hs hn)
theorem join16 (A : Option Addr) (xs : List UInt8) (c : Nat) (A' : Option Addr) (ys : List UInt8) (c' : Nat) (w : World) (hx : Lie w w.heap.size A (bvs xs)) (hy : Lie w w.heap.size A' (bvs ys)) (hl : xs.length ≤ 1000000) (hm : ys.length ≤ 1000000) :
    Calls Tryz.prog 26 #[.slice A xs.length c, .slice A' ys.length c'] w (RetQ w (xs ++ ys)) := by
  have HX := hid hx; have HY := hid hy; have HL := hid hl; have HM := hid hm
  clear hx hy hl hm
  go_enter Tryz.func26, Tryz.ntmps26
  go_wp2_with (at_builtin; refine wpList_append_lie rfl _ _ 22 rfl w.heap.size 5 (.int .u8 0) 1 Tryz.underlying22 infoU8 rfl rfl (World.ownsRow_lit w #[] 0 (Nat.le_refl _) (by simp) rfl) (bvs_length xs) rfl (HX.out.alloc (Nat.le_refl _) _) (bvs_one xs) ?d1 ?d2 ?d3 ?_)
  case d1 => have := HL.out; unfold maxLen; simp; omega
  case d2 => have := HL.out; simp; omega
  case d3 => simp
  intro v1 w1 hown1 hg1 hat1
  have hB1 : Below w.heap.size w w1 := ((Below.refl _ _).alloc (Nat.le_refl _) _).grown hg1 (by simp) (fun k h => by simp [Value.ownBlock] at h; omega)
  have hY1 := HY.out.below hB1
  have HB1 := hid hB1
  have HO1 := hid hown1
  clear hg1 hat1 hown1 hB1
  go_wp2_with (at_builtin; refine wpList_append_lie rfl _ _ 22 rfl w.heap.size 5 (.int .u8 0) 1 Tryz.underlying22 infoU8 rfl rfl HO1.out (bvs_length ys) rfl hY1 (bvs_one ys) ?e1 ?e2 ?e3 ?_)
  case e1 => have := HL.out; have := HM.out; unfold maxLen; simp; omega
  case e2 => have := HL.out; have := HM.out; simp; omega
  case e3 => exact HB1.out.size
  intro v2 w2 hown2 hg2 hat2
  have hB2 : Below w.heap.size w w2 := HB1.out.grown hg2 HB1.out.size (own_lt HO1.out)
  have ho2 : OwnB w2 w.heap.size v2 (xs ++ ys) := by simpa [OwnB, bvs_append] using hown2
  obtain ⟨A2, c2, rfl, hs2⟩ := own_sl ho2
  go_wp2
  go_ret
  exact ⟨A2, c2, rfl, hs2.sq, hB2⟩
theorem lie_to {w w' : World} {A : Option Addr} {xs : List Value} (h : Lie w w.heap.size A xs) (hb : Below w.heap.size w w') : Lie w' w'.heap.size A xs := (h.below hb).more hb.size
theorem src_byte {r : Nat} (h : r < 256) : bvs [UInt8.ofNat r] = [.int .u8 (r : Int)] := by
  simp only [bvs, List.map_cons, List.map_nil, UInt8.toNat_ofNat']
  congr 2
  omega
/-- A leaf's bytes but for the signature. -/
def aheadB (x : Lf) : List UInt8 := (vecBytes x.box ++ vecBytes x.sign) ++ (vecBytes x.ident ++ [UInt8.ofNat x.src]) ++ (if x.src = 3 then vecBytes x.par else [])
def Lf200 (x : Lf) : Prop := x.box.length ≤ 200 ∧ x.sign.length ≤ 200 ∧ x.ident.length ≤ 200 ∧ x.par.length ≤ 200 ∧ x.sig.length ≤ 200 ∧ x.src < 256
theorem vec_le {xs : List UInt8} (h : xs.length ≤ 100000) : (vecBytes xs).length ≤ 100004 := by
  have h1 := lenBytes_length xs.length
  have h2 := lenSize_le xs.length
  simp only [vecBytes, List.length_append]
  omega
section
variable {P : Program} {ops : Array Oper} {Q : Exit → Act → World → Prop} {md : Region.Mode} {n : Nat} {a : Act} {w0 : World}
/-- A drawn region in which a call that makes bytes and a slice that is built may come up. -/
theorem wpGrA_bytes_slice {g k : Nat} {l : List Oper} {i j : Nat} {oi oj : Oper} {listed : Array Bool} {fn : FuncId} {args : Array Value} (xs : List UInt8) (hi : ops[i]? = some oi) (hj : ops[j]? = some oj)
    (hrd : (Region.ready md ops listed == [i, j] && decide (i < n) && decide (j < n)) = true)
    (hw : Region.wanted oi (yielded ops a.tmps) = true) (hr : ∀ w', (execOp a.eval oi).run P w' = .ok (.enter fn args) w')
    (hc : ∀ w', Below w0.heap.size w0 w' → Calls P fn args w' (RetQ w' xs))
    (hwj : Region.wanted oj (yielded ops a.tmps) = true) (t e : TypeId) (len : Nat) (parts : Array (Nat × Operand)) (ho : oj.op = .buildSlice t len parts) (hu : P.underlying t = some (.slice e))
    (ls : List (Nat × Value)) (hl : (parts.toList.map fun (i, x) => (i, a.eval x)) = ls) (zs : List Value) (hf : P.builtSlice e len ls = some zs.toArray) (hn : zs.length ≤ len) (hm : len ≤ 9223372036854775807)
    (h1 : ∀ A c w2, Below w0.heap.size w0 w2 → Sq w2 w2.heap.size A c (bvs xs) → wpGrA P md ops Q n (GrL P md ops Q g n l) w2 k (listed.setIfInBounds i true) (a.put oi.dst (.slice A xs.length c)))
    (h2 : ∀ p w2, Below w0.heap.size w0 w2 → Sq w2 w2.heap.size (some ⟨p, 0, none⟩) len zs → wpGrA P md ops Q n (GrL P md ops Q g n l) w2 k (listed.setIfInBounds j true) (a.put oj.dst (.slice (some ⟨p, 0, none⟩) len len))) :
    wpGrA P md ops Q n (GrL P md ops Q g n l) w0 (k + 1) listed a := fun w hb => by
  simp only [Bool.and_eq_true, decide_eq_true_eq, beq_iff_eq] at hrd
  refine wpGr_ready hrd.1.1 (by simp) (by simp [hrd.1.2, hrd.2]) fun m hm2 => ?_
  simp only [List.mem_cons, List.not_mem_nil, or_false] at hm2
  rcases hm2 with rfl | rfl
  · unfold wpOp
    simp only [hi]
    rw [if_pos hw]
    refine .inl ?_
    unfold Oper.wp
    rw [hr w]
    refine (hc w hb).mono fun e w'' ⟨A, c, he, hs, hb2⟩ => ?_
    subst he
    exact ⟨hb2, fun w3 hw3 => h1 A c w'' (hb.trans (hb2.mono hb.size)) hs w3 hw3⟩
  · refine wpOp_sliceTo1 hj hwj t e len parts ho hu zs.toArray (by rw [Array.toList_map, hl]; exact hf) ⟨(Below.refl _ _).alloc (Nat.le_refl _) _, fun w3 hw3 => ?_⟩
    refine h2 w.heap.size (w.alloc (.cells zs.toArray e)) (hb.alloc hb.size _) (.inr ⟨w.heap.size, 0, rfl, by simp, by simpa using hn, hm, fun j u hj => ?_⟩) w3 hw3
    rw [Nat.zero_add, cell_of_row _ _ j _ e (0, 0) (heap_alloc_new w _)]
    simpa using hj
theorem wpGrA_q {g f : Nat} {l : List Oper} {i : Nat} {oi : Oper} {listed : Array Bool} {fn : FuncId} {args : Array Value} (xs : List UInt8) (hi : ops[i]? = some oi) (hrd : (Region.ready md ops listed == [i] && decide (i < n)) = true)
    (hw : Region.wanted oi (yielded ops a.tmps) = true) (hr : ∀ w', (execOp a.eval oi).run P w' = .ok (.enter fn args) w') (hc : ∀ w', Below w0.heap.size w0 w' → Calls P fn args w' (RetQ w' xs))
    (h : ∀ A c w2, Below w0.heap.size w0 w2 → Sq w2 w2.heap.size A c (bvs xs) → wpGrA P md ops Q n (GrL P md ops Q g n l) w2 f (listed.setIfInBounds i true) (a.put oi.dst (.slice A xs.length c))) : wpGrA P md ops Q n (GrL P md ops Q g n l) w0 (f + 1) listed a :=
  wpGrA_call (fun w' v w'' => ∃ A c, v = .slice A xs.length c ∧ Sq w'' w''.heap.size A c (bvs xs)) hi hrd hw hr (fun w' hb => (hc w' hb).mono fun e w'' ⟨A, c, he, hs, hb2⟩ => ⟨_, he, hb2, A, c, rfl, hs⟩)
    fun w' v w'' hb hb2 ⟨A, c, hv, hs⟩ => by
      subst hv
      exact h A c w'' (hb.trans (hb2.mono hb.size)) hs
theorem wpLA_q {o : Oper} {rest : List Oper} {f : FuncId} {args : Array Value} (xs : List UInt8) (hw : Region.wanted o (yielded ops a.tmps) = true) (hr : ∀ w', (execOp a.eval o).run P w' = .ok (.enter f args) w') (hc : ∀ w', Below w0.heap.size w0 w' → Calls P f args w' (RetQ w' xs))
    (h : ∀ A c w2, Below w0.heap.size w0 w2 → Sq w2 w2.heap.size A c (bvs xs) → wpLA P ops Q w2 rest (a.put o.dst (.slice A xs.length c))) : wpLA P ops Q w0 (o :: rest) a :=
  wpLA_call (fun w' v w'' => (∃ A c, v = .slice A xs.length c ∧ Sq w'' w''.heap.size A c (bvs xs)) ∧ Below w'.heap.size w' w'') hw hr (fun w' hb => (hc w' hb).mono fun e w'' ⟨A, c, he, hs, hb2⟩ => ⟨_, he, ⟨A, c, rfl, hs⟩, hb2⟩)
    fun w' v w'' hb ⟨⟨A, c, hv, hs⟩, hb2⟩ => by
      subst hv
      exact h A c w'' (hb.trans (hb2.mono hb.size)) hs
end
end Go.Proofs.YtgehfbcagaaggaaGreatDoor
end
section
namespace Go.Proofs.YtgehfbcagaaggaaGreatDoor
open Go Go.RowKit
set_option linter.unusedVariables false
set_option linter.unusedSimpArgs false
theorem built1 (r : Nat) : Tryz.prog.builtSlice 5 1 [(0, .int .u8 (r : Int))] = some #[.int .u8 (r : Int)] := by kernel_rfl
set_option maxRecDepth 100000 in
set_option maxHeartbeats 8000000 in
theorem Ahead16_any (x : Lf) (a : LA) (w : World) (hx : LfIn w x a) (hl : Lf200 x) : Calls Tryz.prog 25 #[.agg (lfV x a)] w (RetQ w (aheadB x)) := by
  have K1 := hid (heap_alloc_new w (.cells (lfV x a) LfT))
  obtain ⟨W, hW⟩ : ∃ W, W = w.alloc (.cells (lfV x a) LfT) := ⟨_, rfl⟩
  have HW0 : Hid (Below w.heap.size w W) := hid (by rw [hW]; exact (Below.refl _ _).alloc (Nat.le_refl _) _)
  have HX := hid (hx.on HW0.out)
  rw [← hW] at K1
  have HV1 : Hid (∀ V, Below W.heap.size W V → Calls Tryz.prog 27 #[.slice a.a0 x.box.length a.c0] V (RetQ V (vecBytes x.box))) := hid fun V h => VecQ _ _ _ V (by have := hl.1; omega) (lie_to HX.out.1 h)
  have HV2 : Hid (∀ V, Below W.heap.size W V → Calls Tryz.prog 27 #[.slice a.a1 x.sign.length a.c1] V (RetQ V (vecBytes x.sign))) := hid fun V h => VecQ _ _ _ V (by have := hl.2.1; omega) (lie_to HX.out.2.1 h)
  have HV3 : Hid (∀ V, Below W.heap.size W V → Calls Tryz.prog 27 #[.slice a.a2 x.ident.length a.c2] V (RetQ V (vecBytes x.ident))) := hid fun V h => VecQ _ _ _ V (by have := hl.2.2.1; omega) (lie_to HX.out.2.2.1 h)
  have HV4 : Hid (∀ V, Below W.heap.size W V → Calls Tryz.prog 27 #[.slice a.a3 x.par.length a.c3] V (RetQ V (vecBytes x.par))) := hid fun V h => VecQ _ _ _ V (by have := hl.2.2.2.1; omega) (lie_to HX.out.2.2.2.1 h)
  have v1 := vec_le (xs := x.box) (by have := hl.1; omega); have v2 := vec_le (xs := x.sign) (by have := hl.2.1; omega); have v3 := vec_le (xs := x.ident) (by have := hl.2.2.1; omega); have v4 := vec_le (xs := x.par) (by have := hl.2.2.2.1; omega)
  have hsb := src_byte hl.2.2.2.2.2
  have HBU := hid (built1 x.src)
  have HA : Hid (aheadB x = (vecBytes x.box ++ vecBytes x.sign) ++ (vecBytes x.ident ++ [UInt8.ofNat x.src]) ++ (if x.src = 3 then vecBytes x.par else [])) := hid rfl
  obtain ⟨RR, hR⟩ : ∃ t, t = aheadB x := ⟨_, rfl⟩
  obtain ⟨b1, hb1⟩ : ∃ t, t = vecBytes x.box := ⟨_, rfl⟩
  obtain ⟨b2, hb2⟩ : ∃ t, t = vecBytes x.sign := ⟨_, rfl⟩
  obtain ⟨b3, hb3⟩ : ∃ t, t = vecBytes x.ident := ⟨_, rfl⟩
  obtain ⟨b4, hb4⟩ : ∃ t, t = vecBytes x.par := ⟨_, rfl⟩
  obtain ⟨sb, hs⟩ : ∃ t, t = UInt8.ofNat x.src := ⟨_, rfl⟩
  rw [← hR, ← hb1, ← hb2, ← hb3, ← hb4, ← hs] at HA
  rw [← hb1] at HV1 v1
  rw [← hb2] at HV2 v2
  rw [← hb3] at HV3 v3
  rw [← hb4] at HV4 v4
  rw [← hs] at hsb
  rw [← hR]
  have HN : Hid (b1.length ≤ 100004 ∧ b2.length ≤ 100004 ∧ b3.length ≤ 100004 ∧ b4.length ≤ 100004) := hid ⟨v1, v2, v3, v4⟩
  have HSB := hid hsb
  have HC : Hid (∀ w', Below W.heap.size W w' → (w'.cell? ⟨w.heap.size, 0, none⟩ = some (.slice a.a0 x.box.length a.c0) ∧ w'.cell? ⟨w.heap.size, 1, none⟩ = some (.slice a.a1 x.sign.length a.c1) ∧ w'.cell? ⟨w.heap.size, 2, none⟩ = some (.slice a.a2 x.ident.length a.c2) ∧ w'.cell? ⟨w.heap.size, 3, none⟩ = some (.int .u8 (x.src : Int)))) := hid fun w' h => by
    have K2 := (h.block _ (block_lt K1.out)).trans K1.out
    exact ⟨cell_of K2 0 _ rfl, cell_of K2 1 _ rfl, cell_of K2 2 _ rfl, cell_of K2 3 _ rfl⟩
  clear hx hl hR hb1 hb2 hb3 hb4 hs v1 v2 v3 v4 hsb HX
  go_enter Tryz.func25, Tryz.ntmps25
  go_upto_region 1 with fail
  have e : w.alloc (.cells #[.slice a.a0 x.box.length a.c0, .slice a.a1 x.sign.length a.c1, .slice a.a2 x.ident.length a.c2, .int .u8 (x.src : Int), .slice a.a3 x.par.length a.c3, .slice a.a4 x.sig.length a.c4] LfT) = W := hW.symm
  rw [e]
  clear e hW
  have HB : Hid (Below W.heap.size W W) := hid (Below.refl _ _)
  refine wp_region_grA 13 (by kernel_rfl) (by decide) ?_
  refine wpGrA_take (i := 0) (.pointer (some ⟨w.heap.size, 0, none⟩)) rfl (by kernel_rfl) (by kernel_rfl) (fun _ _ _ h => h) (yG_val _ (by rfl) (fun w' _ => by (go_simp; try rfl))) ?_
  (try simp only [Act.put, List.getElem_toArray, List.getElem_cons_succ, List.getElem_cons_zero, List.setIfInBounds_toArray, List.set_cons_zero, List.set_cons_succ])
  refine wpGrA_take (i := 1) (.slice a.a0 x.box.length a.c0) rfl (by kernel_rfl) (by kernel_rfl) (fun _ _ _ h => h) (yG_val _ (by rfl) (fun w' hb => by have c := (HC.out w' hb).1; (go_simp; try rfl))) ?_
  (try simp only [Act.put, List.getElem_toArray, List.getElem_cons_succ, List.getElem_cons_zero, List.setIfInBounds_toArray, List.set_cons_zero, List.set_cons_succ])
  refine wpGrA_take (i := 3) (.pointer (some ⟨w.heap.size, 1, none⟩)) rfl (by kernel_rfl) (by kernel_rfl) (fun _ _ _ h => h) (yG_val _ (by rfl) (fun w' _ => by (go_simp; try rfl))) ?_
  (try simp only [Act.put, List.getElem_toArray, List.getElem_cons_succ, List.getElem_cons_zero, List.setIfInBounds_toArray, List.set_cons_zero, List.set_cons_succ])
  refine wpGrA_take (i := 4) (.slice a.a1 x.sign.length a.c1) rfl (by kernel_rfl) (by kernel_rfl) (fun _ _ _ h => h) (yG_val _ (by rfl) (fun w' hb => by have c := (HC.out w' hb).2.1; (go_simp; try rfl))) ?_
  (try simp only [Act.put, List.getElem_toArray, List.getElem_cons_succ, List.getElem_cons_zero, List.setIfInBounds_toArray, List.set_cons_zero, List.set_cons_succ])
  refine wpGrA_take (i := 7) (.pointer (some ⟨w.heap.size, 2, none⟩)) rfl (by kernel_rfl) (by kernel_rfl) (fun _ _ _ h => h) (yG_val _ (by rfl) (fun w' _ => by (go_simp; try rfl))) ?_
  (try simp only [Act.put, List.getElem_toArray, List.getElem_cons_succ, List.getElem_cons_zero, List.setIfInBounds_toArray, List.set_cons_zero, List.set_cons_succ])
  refine wpGrA_take (i := 8) (.slice a.a2 x.ident.length a.c2) rfl (by kernel_rfl) (by kernel_rfl) (fun _ _ _ h => h) (yG_val _ (by rfl) (fun w' hb => by have c := (HC.out w' hb).2.2.1; (go_simp; try rfl))) ?_
  (try simp only [Act.put, List.getElem_toArray, List.getElem_cons_succ, List.getElem_cons_zero, List.setIfInBounds_toArray, List.set_cons_zero, List.set_cons_succ])
  refine wpGrA_take (i := 10) (.pointer (some ⟨w.heap.size, 3, none⟩)) rfl (by kernel_rfl) (by kernel_rfl) (fun _ _ _ h => h) (yG_val _ (by rfl) (fun w' _ => by (go_simp; try rfl))) ?_
  (try simp only [Act.put, List.getElem_toArray, List.getElem_cons_succ, List.getElem_cons_zero, List.setIfInBounds_toArray, List.set_cons_zero, List.set_cons_succ])
  refine wpGrA_take (i := 11) (.int .u8 (x.src : Int)) rfl (by kernel_rfl) (by kernel_rfl) (fun _ _ _ h => h) (yG_val _ (by rfl) (fun w' hb => by have c := (HC.out w' hb).2.2.2; (go_simp; try rfl))) ?_
  (try simp only [Act.put, List.getElem_toArray, List.getElem_cons_succ, List.getElem_cons_zero, List.setIfInBounds_toArray, List.set_cons_zero, List.set_cons_succ])
  refine wpGrA_bytes_slice (i := 2) (j := 12) (b1) rfl rfl (by kernel_rfl) (by rfl) (fun w' => by go_simp) (fun w' hb => (HV1.out w' (HB.out.trans (hb.mono HB.out.size)))) (by rfl) _ _ 1 _ rfl Tryz.underlying22 [(0, .int .u8 (x.src : Int))] rfl ([.int .u8 (x.src : Int)]) HBU.out (by simp) (by decide) ?_ ?_
  · intro B1 d1 v1 hb hq
    have HBn := hid (HB.out.trans (hb.mono HB.out.size))
    clear HB 
    have HB := HBn
    clear HBn 
    have Q1 := hid hq
    clear hb hq
    (try simp only [Act.put, List.getElem_toArray, List.getElem_cons_succ, List.getElem_cons_zero, List.setIfInBounds_toArray, List.set_cons_zero, List.set_cons_succ])
    refine wpGrA_bytes_slice (i := 5) (j := 12) (b2) rfl rfl (by kernel_rfl) (by rfl) (fun w' => by go_simp) (fun w' hb => (HV2.out w' (HB.out.trans (hb.mono HB.out.size)))) (by rfl) _ _ 1 _ rfl Tryz.underlying22 [(0, .int .u8 (x.src : Int))] rfl ([.int .u8 (x.src : Int)]) HBU.out (by simp) (by decide) ?_ ?_
    · intro B2 d2 v2 hb hq
      have Q1n := hid ((Q1.out.below hb).more hb.size)
      have HBn := hid (HB.out.trans (hb.mono HB.out.size))
      clear HB Q1
      have HB := HBn
      have Q1 := Q1n
      clear HBn Q1n
      have Q2 := hid hq
      clear hb hq
      (try simp only [Act.put, List.getElem_toArray, List.getElem_cons_succ, List.getElem_cons_zero, List.setIfInBounds_toArray, List.set_cons_zero, List.set_cons_succ])
      refine wpGrA_bytes_slice (i := 6) (j := 12) (b1 ++ b2) rfl rfl (by kernel_rfl) (by rfl) (fun w' => by go_simp) (fun w' hb => (join16 B1 (b1) d1 B2 (b2) d2 w' ((Q1.out.below hb).more hb.size).lie ((Q2.out.below hb).more hb.size).lie (by have := HN.out; (try simp only [List.length_append, List.length_cons, List.length_nil]); omega) (by have := HN.out; (try simp only [List.length_append, List.length_cons, List.length_nil]); omega))) (by rfl) _ _ 1 _ rfl Tryz.underlying22 [(0, .int .u8 (x.src : Int))] rfl ([.int .u8 (x.src : Int)]) HBU.out (by simp) (by decide) ?_ ?_
      · intro B3 d3 v3 hb hq
        have Q1n := hid ((Q1.out.below hb).more hb.size)
        have Q2n := hid ((Q2.out.below hb).more hb.size)
        have HBn := hid (HB.out.trans (hb.mono HB.out.size))
        clear HB Q1 Q2
        have HB := HBn
        have Q1 := Q1n
        have Q2 := Q2n
        clear HBn Q1n Q2n
        have Q3 := hid hq
        clear hb hq
        (try simp only [Act.put, List.getElem_toArray, List.getElem_cons_succ, List.getElem_cons_zero, List.setIfInBounds_toArray, List.set_cons_zero, List.set_cons_succ])
        refine wpGrA_bytes_slice (i := 9) (j := 12) (b3) rfl rfl (by kernel_rfl) (by rfl) (fun w' => by go_simp) (fun w' hb => (HV3.out w' (HB.out.trans (hb.mono HB.out.size)))) (by rfl) _ _ 1 _ rfl Tryz.underlying22 [(0, .int .u8 (x.src : Int))] rfl ([.int .u8 (x.src : Int)]) HBU.out (by simp) (by decide) ?_ ?_
        · intro B4 d4 v4 hb hq
          have Q1n := hid ((Q1.out.below hb).more hb.size)
          have Q2n := hid ((Q2.out.below hb).more hb.size)
          have Q3n := hid ((Q3.out.below hb).more hb.size)
          have HBn := hid (HB.out.trans (hb.mono HB.out.size))
          clear HB Q1 Q2 Q3
          have HB := HBn
          have Q1 := Q1n
          have Q2 := Q2n
          have Q3 := Q3n
          clear HBn Q1n Q2n Q3n
          have Q4 := hid hq
          clear hb hq
          (try simp only [Act.put, List.getElem_toArray, List.getElem_cons_succ, List.getElem_cons_zero, List.setIfInBounds_toArray, List.set_cons_zero, List.set_cons_succ])
          refine wpGrA_slice1 (i := 12) rfl (by kernel_rfl) (by rfl) _ _ 1 _ rfl Tryz.underlying22 [(0, .int .u8 (x.src : Int))] rfl ([.int .u8 (x.src : Int)]) HBU.out (by simp) (by decide) ?_
          intro p5 v5 hb hq
          have Q1n := hid ((Q1.out.below hb).more hb.size)
          have Q2n := hid ((Q2.out.below hb).more hb.size)
          have Q3n := hid ((Q3.out.below hb).more hb.size)
          have Q4n := hid ((Q4.out.below hb).more hb.size)
          have HBn := hid (HB.out.trans (hb.mono HB.out.size))
          clear HB Q1 Q2 Q3 Q4
          have HB := HBn
          have Q1 := Q1n
          have Q2 := Q2n
          have Q3 := Q3n
          have Q4 := Q4n
          clear HBn Q1n Q2n Q3n Q4n
          have Q5 := hid hq
          clear hb hq
          (try simp only [Act.put, List.getElem_toArray, List.getElem_cons_succ, List.getElem_cons_zero, List.setIfInBounds_toArray, List.set_cons_zero, List.set_cons_succ])
          refine wpGrA_end (by kernel_rfl) ?_
          intro wz hb
          have Q1n := hid ((Q1.out.below hb).more hb.size)
          have Q2n := hid ((Q2.out.below hb).more hb.size)
          have Q3n := hid ((Q3.out.below hb).more hb.size)
          have Q4n := hid ((Q4.out.below hb).more hb.size)
          have Q5n := hid ((Q5.out.below hb).more hb.size)
          have HBn := hid (HB.out.trans (hb.mono HB.out.size))
          clear HB Q1 Q2 Q3 Q4 Q5
          have HB := HBn
          have Q1 := Q1n
          have Q2 := Q2n
          have Q3 := Q3n
          have Q4 := Q4n
          have Q5 := Q5n
          clear HBn Q1n Q2n Q3n Q4n Q5n
          clear hb
          refine wpLA_here ?_
          refine wpLA_q (b3 ++ [sb]) (by rfl) (fun w' => by go_simp) (fun w' hb => (join16 B4 b3 d4 (some ⟨p5, 0, none⟩) [sb] 1 w' ((Q4.out.below hb).more hb.size).lie (by have h := ((Q5.out.below hb).more hb.size).lie; rw [HSB.out]; exact h) (by have := HN.out; (try simp only [List.length_append, List.length_cons, List.length_nil]); omega) (by have := HN.out; (try simp only [List.length_append, List.length_cons, List.length_nil]); omega))) ?_
          intro B6 d6 v6 hb hq
          have Q1n := hid ((Q1.out.below hb).more hb.size)
          have Q2n := hid ((Q2.out.below hb).more hb.size)
          have Q3n := hid ((Q3.out.below hb).more hb.size)
          have Q4n := hid ((Q4.out.below hb).more hb.size)
          have Q5n := hid ((Q5.out.below hb).more hb.size)
          have HBn := hid (HB.out.trans (hb.mono HB.out.size))
          clear HB Q1 Q2 Q3 Q4 Q5
          have HB := HBn
          have Q1 := Q1n
          have Q2 := Q2n
          have Q3 := Q3n
          have Q4 := Q4n
          have Q5 := Q5n
          clear HBn Q1n Q2n Q3n Q4n Q5n
          have Q6 := hid hq
          clear hb hq
          (try simp only [Act.put, List.getElem_toArray, List.getElem_cons_succ, List.getElem_cons_zero, List.setIfInBounds_toArray, List.set_cons_zero, List.set_cons_succ])
          refine wpLA_q ((b1 ++ b2) ++ (b3 ++ [sb])) (by rfl) (fun w' => by go_simp) (fun w' hb => (join16 B3 (b1 ++ b2) d3 B6 (b3 ++ [sb]) d6 w' ((Q3.out.below hb).more hb.size).lie ((Q6.out.below hb).more hb.size).lie (by have := HN.out; (try simp only [List.length_append, List.length_cons, List.length_nil]); omega) (by have := HN.out; (try simp only [List.length_append, List.length_cons, List.length_nil]); omega))) ?_
          intro B7 d7 v7 hb hq
          have Q1n := hid ((Q1.out.below hb).more hb.size)
          have Q2n := hid ((Q2.out.below hb).more hb.size)
          have Q3n := hid ((Q3.out.below hb).more hb.size)
          have Q4n := hid ((Q4.out.below hb).more hb.size)
          have Q5n := hid ((Q5.out.below hb).more hb.size)
          have Q6n := hid ((Q6.out.below hb).more hb.size)
          have HBn := hid (HB.out.trans (hb.mono HB.out.size))
          clear HB Q1 Q2 Q3 Q4 Q5 Q6
          have HB := HBn
          have Q1 := Q1n
          have Q2 := Q2n
          have Q3 := Q3n
          have Q4 := Q4n
          have Q5 := Q5n
          have Q6 := Q6n
          clear HBn Q1n Q2n Q3n Q4n Q5n Q6n
          have Q7 := hid hq
          clear hb hq
          (try simp only [Act.put, List.getElem_toArray, List.getElem_cons_succ, List.getElem_cons_zero, List.setIfInBounds_toArray, List.set_cons_zero, List.set_cons_succ])
          refine wpLA_take (.slice B7 ((b1 ++ b2) ++ (b3 ++ [sb])).length d7) (yG_val _ (by rfl) (fun w' _ => by (go_simp; try rfl))) ?_
          (try simp only [Act.put, List.getElem_toArray, List.getElem_cons_succ, List.getElem_cons_zero, List.setIfInBounds_toArray, List.set_cons_zero, List.set_cons_succ])
          refine wpLA_end ?_
          intro we hb
          have Q1n := hid ((Q1.out.below hb).more hb.size)
          have Q2n := hid ((Q2.out.below hb).more hb.size)
          have Q3n := hid ((Q3.out.below hb).more hb.size)
          have Q4n := hid ((Q4.out.below hb).more hb.size)
          have Q5n := hid ((Q5.out.below hb).more hb.size)
          have Q6n := hid ((Q6.out.below hb).more hb.size)
          have Q7n := hid ((Q7.out.below hb).more hb.size)
          have HBn := hid (HB.out.trans (hb.mono HB.out.size))
          clear HB Q1 Q2 Q3 Q4 Q5 Q6 Q7
          have HB := HBn
          have Q1 := Q1n
          have Q2 := Q2n
          have Q3 := Q3n
          have Q4 := Q4n
          have Q5 := Q5n
          have Q6 := Q6n
          have Q7 := Q7n
          clear HBn Q1n Q2n Q3n Q4n Q5n Q6n Q7n
          clear hb
          obtain ⟨m, hm⟩ : ∃ t, t = (b1 ++ b2) ++ (b3 ++ [sb]) := ⟨_, rfl⟩
          rw [← hm] at Q7 HA ⊢
          have HML : Hid (m.length ≤ 400000) := hid (by rw [hm]; have := HN.out; simp only [List.length_append, List.length_cons, List.length_nil]; omega)
          clear hm
          have K2 := (HB.out.block _ (block_lt K1.out)).trans K1.out
          have c3 := cell_of K2 3 _ rfl; have c4 := cell_of K2 4 _ rfl
          by_cases h3 : x.src = 3
          · have h3i : (x.src : Int) = 3 := by omega
            rw [if_pos h3] at HA
            go_wp2_with fail
            refine (HV4.out _ HB.out).mono ?_
            rintro e wf ⟨A8, c8, rfl, hs8, hb⟩
            have Q8 := hid hs8
            have QM := hid ((Q7.out.below hb).more hb.size)
            have HBn := hid (HB.out.trans (hb.mono HB.out.size))
            clear hs8 hb HB
            go_wp2_with fail
            refine (join16 B7 m d7 A8 b4 c8 wf QM.out.lie Q8.out.lie (by have := HML.out; omega) (by have := HN.out; omega)).mono ?_
            rintro e wg ⟨A9, c9, rfl, hs9, hb⟩
            have HB := hid (HW0.out.trans ((HBn.out.trans (hb.mono HBn.out.size)).mono HW0.out.size))
            have Q9 := hid hs9
            clear hs9 hb HBn
            go_wp2
            go_ret
            exact ⟨A9, c9, by rw [HA.out, List.length_append]; rfl, by rw [HA.out]; exact Q9.out, HB.out⟩
          · have h3i : ¬ (x.src : Int) = 3 := by omega
            rw [if_neg h3, List.append_nil] at HA
            go_wp2
            go_ret
            exact ⟨B7, d7, by rw [HA.out]; rfl, by rw [HA.out]; exact Q7.out, HW0.out.trans (HB.out.mono HW0.out.size)⟩
        · intro p4 v4 hb hq
          have Q1n := hid ((Q1.out.below hb).more hb.size)
          have Q2n := hid ((Q2.out.below hb).more hb.size)
          have Q3n := hid ((Q3.out.below hb).more hb.size)
          have HBn := hid (HB.out.trans (hb.mono HB.out.size))
          clear HB Q1 Q2 Q3
          have HB := HBn
          have Q1 := Q1n
          have Q2 := Q2n
          have Q3 := Q3n
          clear HBn Q1n Q2n Q3n
          have Q4 := hid hq
          clear hb hq
          (try simp only [Act.put, List.getElem_toArray, List.getElem_cons_succ, List.getElem_cons_zero, List.setIfInBounds_toArray, List.set_cons_zero, List.set_cons_succ])
          refine wpGrA_q (i := 9) (b3) rfl (by kernel_rfl) (by rfl) (fun w' => by go_simp) (fun w' hb => (HV3.out w' (HB.out.trans (hb.mono HB.out.size)))) ?_
          intro B5 d5 v5 hb hq
          have Q1n := hid ((Q1.out.below hb).more hb.size)
          have Q2n := hid ((Q2.out.below hb).more hb.size)
          have Q3n := hid ((Q3.out.below hb).more hb.size)
          have Q4n := hid ((Q4.out.below hb).more hb.size)
          have HBn := hid (HB.out.trans (hb.mono HB.out.size))
          clear HB Q1 Q2 Q3 Q4
          have HB := HBn
          have Q1 := Q1n
          have Q2 := Q2n
          have Q3 := Q3n
          have Q4 := Q4n
          clear HBn Q1n Q2n Q3n Q4n
          have Q5 := hid hq
          clear hb hq
          (try simp only [Act.put, List.getElem_toArray, List.getElem_cons_succ, List.getElem_cons_zero, List.setIfInBounds_toArray, List.set_cons_zero, List.set_cons_succ])
          refine wpGrA_end (by kernel_rfl) ?_
          intro wz hb
          have Q1n := hid ((Q1.out.below hb).more hb.size)
          have Q2n := hid ((Q2.out.below hb).more hb.size)
          have Q3n := hid ((Q3.out.below hb).more hb.size)
          have Q4n := hid ((Q4.out.below hb).more hb.size)
          have Q5n := hid ((Q5.out.below hb).more hb.size)
          have HBn := hid (HB.out.trans (hb.mono HB.out.size))
          clear HB Q1 Q2 Q3 Q4 Q5
          have HB := HBn
          have Q1 := Q1n
          have Q2 := Q2n
          have Q3 := Q3n
          have Q4 := Q4n
          have Q5 := Q5n
          clear HBn Q1n Q2n Q3n Q4n Q5n
          clear hb
          refine wpLA_here ?_
          refine wpLA_q (b3 ++ [sb]) (by rfl) (fun w' => by go_simp) (fun w' hb => (join16 B5 b3 d5 (some ⟨p4, 0, none⟩) [sb] 1 w' ((Q5.out.below hb).more hb.size).lie (by have h := ((Q4.out.below hb).more hb.size).lie; rw [HSB.out]; exact h) (by have := HN.out; (try simp only [List.length_append, List.length_cons, List.length_nil]); omega) (by have := HN.out; (try simp only [List.length_append, List.length_cons, List.length_nil]); omega))) ?_
          intro B6 d6 v6 hb hq
          have Q1n := hid ((Q1.out.below hb).more hb.size)
          have Q2n := hid ((Q2.out.below hb).more hb.size)
          have Q3n := hid ((Q3.out.below hb).more hb.size)
          have Q4n := hid ((Q4.out.below hb).more hb.size)
          have Q5n := hid ((Q5.out.below hb).more hb.size)
          have HBn := hid (HB.out.trans (hb.mono HB.out.size))
          clear HB Q1 Q2 Q3 Q4 Q5
          have HB := HBn
          have Q1 := Q1n
          have Q2 := Q2n
          have Q3 := Q3n
          have Q4 := Q4n
          have Q5 := Q5n
          clear HBn Q1n Q2n Q3n Q4n Q5n
          have Q6 := hid hq
          clear hb hq
          (try simp only [Act.put, List.getElem_toArray, List.getElem_cons_succ, List.getElem_cons_zero, List.setIfInBounds_toArray, List.set_cons_zero, List.set_cons_succ])
          refine wpLA_q ((b1 ++ b2) ++ (b3 ++ [sb])) (by rfl) (fun w' => by go_simp) (fun w' hb => (join16 B3 (b1 ++ b2) d3 B6 (b3 ++ [sb]) d6 w' ((Q3.out.below hb).more hb.size).lie ((Q6.out.below hb).more hb.size).lie (by have := HN.out; (try simp only [List.length_append, List.length_cons, List.length_nil]); omega) (by have := HN.out; (try simp only [List.length_append, List.length_cons, List.length_nil]); omega))) ?_
          intro B7 d7 v7 hb hq
          have Q1n := hid ((Q1.out.below hb).more hb.size)
          have Q2n := hid ((Q2.out.below hb).more hb.size)
          have Q3n := hid ((Q3.out.below hb).more hb.size)
          have Q4n := hid ((Q4.out.below hb).more hb.size)
          have Q5n := hid ((Q5.out.below hb).more hb.size)
          have Q6n := hid ((Q6.out.below hb).more hb.size)
          have HBn := hid (HB.out.trans (hb.mono HB.out.size))
          clear HB Q1 Q2 Q3 Q4 Q5 Q6
          have HB := HBn
          have Q1 := Q1n
          have Q2 := Q2n
          have Q3 := Q3n
          have Q4 := Q4n
          have Q5 := Q5n
          have Q6 := Q6n
          clear HBn Q1n Q2n Q3n Q4n Q5n Q6n
          have Q7 := hid hq
          clear hb hq
          (try simp only [Act.put, List.getElem_toArray, List.getElem_cons_succ, List.getElem_cons_zero, List.setIfInBounds_toArray, List.set_cons_zero, List.set_cons_succ])
          refine wpLA_take (.slice B7 ((b1 ++ b2) ++ (b3 ++ [sb])).length d7) (yG_val _ (by rfl) (fun w' _ => by (go_simp; try rfl))) ?_
          (try simp only [Act.put, List.getElem_toArray, List.getElem_cons_succ, List.getElem_cons_zero, List.setIfInBounds_toArray, List.set_cons_zero, List.set_cons_succ])
          refine wpLA_end ?_
          intro we hb
          have Q1n := hid ((Q1.out.below hb).more hb.size)
          have Q2n := hid ((Q2.out.below hb).more hb.size)
          have Q3n := hid ((Q3.out.below hb).more hb.size)
          have Q4n := hid ((Q4.out.below hb).more hb.size)
          have Q5n := hid ((Q5.out.below hb).more hb.size)
          have Q6n := hid ((Q6.out.below hb).more hb.size)
          have Q7n := hid ((Q7.out.below hb).more hb.size)
          have HBn := hid (HB.out.trans (hb.mono HB.out.size))
          clear HB Q1 Q2 Q3 Q4 Q5 Q6 Q7
          have HB := HBn
          have Q1 := Q1n
          have Q2 := Q2n
          have Q3 := Q3n
          have Q4 := Q4n
          have Q5 := Q5n
          have Q6 := Q6n
          have Q7 := Q7n
          clear HBn Q1n Q2n Q3n Q4n Q5n Q6n Q7n
          clear hb
          obtain ⟨m, hm⟩ : ∃ t, t = (b1 ++ b2) ++ (b3 ++ [sb]) := ⟨_, rfl⟩
          rw [← hm] at Q7 HA ⊢
          have HML : Hid (m.length ≤ 400000) := hid (by rw [hm]; have := HN.out; simp only [List.length_append, List.length_cons, List.length_nil]; omega)
          clear hm
          have K2 := (HB.out.block _ (block_lt K1.out)).trans K1.out
          have c3 := cell_of K2 3 _ rfl; have c4 := cell_of K2 4 _ rfl
          by_cases h3 : x.src = 3
          · have h3i : (x.src : Int) = 3 := by omega
            rw [if_pos h3] at HA
            go_wp2_with fail
            refine (HV4.out _ HB.out).mono ?_
            rintro e wf ⟨A8, c8, rfl, hs8, hb⟩
            have Q8 := hid hs8
            have QM := hid ((Q7.out.below hb).more hb.size)
            have HBn := hid (HB.out.trans (hb.mono HB.out.size))
            clear hs8 hb HB
            go_wp2_with fail
            refine (join16 B7 m d7 A8 b4 c8 wf QM.out.lie Q8.out.lie (by have := HML.out; omega) (by have := HN.out; omega)).mono ?_
            rintro e wg ⟨A9, c9, rfl, hs9, hb⟩
            have HB := hid (HW0.out.trans ((HBn.out.trans (hb.mono HBn.out.size)).mono HW0.out.size))
            have Q9 := hid hs9
            clear hs9 hb HBn
            go_wp2
            go_ret
            exact ⟨A9, c9, by rw [HA.out, List.length_append]; rfl, by rw [HA.out]; exact Q9.out, HB.out⟩
          · have h3i : ¬ (x.src : Int) = 3 := by omega
            rw [if_neg h3, List.append_nil] at HA
            go_wp2
            go_ret
            exact ⟨B7, d7, by rw [HA.out]; rfl, by rw [HA.out]; exact Q7.out, HW0.out.trans (HB.out.mono HW0.out.size)⟩
      · intro p3 v3 hb hq
        have Q1n := hid ((Q1.out.below hb).more hb.size)
        have Q2n := hid ((Q2.out.below hb).more hb.size)
        have HBn := hid (HB.out.trans (hb.mono HB.out.size))
        clear HB Q1 Q2
        have HB := HBn
        have Q1 := Q1n
        have Q2 := Q2n
        clear HBn Q1n Q2n
        have Q3 := hid hq
        clear hb hq
        (try simp only [Act.put, List.getElem_toArray, List.getElem_cons_succ, List.getElem_cons_zero, List.setIfInBounds_toArray, List.set_cons_zero, List.set_cons_succ])
        refine wpGrA_q (i := 6) (b1 ++ b2) rfl (by kernel_rfl) (by rfl) (fun w' => by go_simp) (fun w' hb => (join16 B1 (b1) d1 B2 (b2) d2 w' ((Q1.out.below hb).more hb.size).lie ((Q2.out.below hb).more hb.size).lie (by have := HN.out; (try simp only [List.length_append, List.length_cons, List.length_nil]); omega) (by have := HN.out; (try simp only [List.length_append, List.length_cons, List.length_nil]); omega))) ?_
        intro B4 d4 v4 hb hq
        have Q1n := hid ((Q1.out.below hb).more hb.size)
        have Q2n := hid ((Q2.out.below hb).more hb.size)
        have Q3n := hid ((Q3.out.below hb).more hb.size)
        have HBn := hid (HB.out.trans (hb.mono HB.out.size))
        clear HB Q1 Q2 Q3
        have HB := HBn
        have Q1 := Q1n
        have Q2 := Q2n
        have Q3 := Q3n
        clear HBn Q1n Q2n Q3n
        have Q4 := hid hq
        clear hb hq
        (try simp only [Act.put, List.getElem_toArray, List.getElem_cons_succ, List.getElem_cons_zero, List.setIfInBounds_toArray, List.set_cons_zero, List.set_cons_succ])
        refine wpGrA_q (i := 9) (b3) rfl (by kernel_rfl) (by rfl) (fun w' => by go_simp) (fun w' hb => (HV3.out w' (HB.out.trans (hb.mono HB.out.size)))) ?_
        intro B5 d5 v5 hb hq
        have Q1n := hid ((Q1.out.below hb).more hb.size)
        have Q2n := hid ((Q2.out.below hb).more hb.size)
        have Q3n := hid ((Q3.out.below hb).more hb.size)
        have Q4n := hid ((Q4.out.below hb).more hb.size)
        have HBn := hid (HB.out.trans (hb.mono HB.out.size))
        clear HB Q1 Q2 Q3 Q4
        have HB := HBn
        have Q1 := Q1n
        have Q2 := Q2n
        have Q3 := Q3n
        have Q4 := Q4n
        clear HBn Q1n Q2n Q3n Q4n
        have Q5 := hid hq
        clear hb hq
        (try simp only [Act.put, List.getElem_toArray, List.getElem_cons_succ, List.getElem_cons_zero, List.setIfInBounds_toArray, List.set_cons_zero, List.set_cons_succ])
        refine wpGrA_end (by kernel_rfl) ?_
        intro wz hb
        have Q1n := hid ((Q1.out.below hb).more hb.size)
        have Q2n := hid ((Q2.out.below hb).more hb.size)
        have Q3n := hid ((Q3.out.below hb).more hb.size)
        have Q4n := hid ((Q4.out.below hb).more hb.size)
        have Q5n := hid ((Q5.out.below hb).more hb.size)
        have HBn := hid (HB.out.trans (hb.mono HB.out.size))
        clear HB Q1 Q2 Q3 Q4 Q5
        have HB := HBn
        have Q1 := Q1n
        have Q2 := Q2n
        have Q3 := Q3n
        have Q4 := Q4n
        have Q5 := Q5n
        clear HBn Q1n Q2n Q3n Q4n Q5n
        clear hb
        refine wpLA_here ?_
        refine wpLA_q (b3 ++ [sb]) (by rfl) (fun w' => by go_simp) (fun w' hb => (join16 B5 b3 d5 (some ⟨p3, 0, none⟩) [sb] 1 w' ((Q5.out.below hb).more hb.size).lie (by have h := ((Q3.out.below hb).more hb.size).lie; rw [HSB.out]; exact h) (by have := HN.out; (try simp only [List.length_append, List.length_cons, List.length_nil]); omega) (by have := HN.out; (try simp only [List.length_append, List.length_cons, List.length_nil]); omega))) ?_
        intro B6 d6 v6 hb hq
        have Q1n := hid ((Q1.out.below hb).more hb.size)
        have Q2n := hid ((Q2.out.below hb).more hb.size)
        have Q3n := hid ((Q3.out.below hb).more hb.size)
        have Q4n := hid ((Q4.out.below hb).more hb.size)
        have Q5n := hid ((Q5.out.below hb).more hb.size)
        have HBn := hid (HB.out.trans (hb.mono HB.out.size))
        clear HB Q1 Q2 Q3 Q4 Q5
        have HB := HBn
        have Q1 := Q1n
        have Q2 := Q2n
        have Q3 := Q3n
        have Q4 := Q4n
        have Q5 := Q5n
        clear HBn Q1n Q2n Q3n Q4n Q5n
        have Q6 := hid hq
        clear hb hq
        (try simp only [Act.put, List.getElem_toArray, List.getElem_cons_succ, List.getElem_cons_zero, List.setIfInBounds_toArray, List.set_cons_zero, List.set_cons_succ])
        refine wpLA_q ((b1 ++ b2) ++ (b3 ++ [sb])) (by rfl) (fun w' => by go_simp) (fun w' hb => (join16 B4 (b1 ++ b2) d4 B6 (b3 ++ [sb]) d6 w' ((Q4.out.below hb).more hb.size).lie ((Q6.out.below hb).more hb.size).lie (by have := HN.out; (try simp only [List.length_append, List.length_cons, List.length_nil]); omega) (by have := HN.out; (try simp only [List.length_append, List.length_cons, List.length_nil]); omega))) ?_
        intro B7 d7 v7 hb hq
        have Q1n := hid ((Q1.out.below hb).more hb.size)
        have Q2n := hid ((Q2.out.below hb).more hb.size)
        have Q3n := hid ((Q3.out.below hb).more hb.size)
        have Q4n := hid ((Q4.out.below hb).more hb.size)
        have Q5n := hid ((Q5.out.below hb).more hb.size)
        have Q6n := hid ((Q6.out.below hb).more hb.size)
        have HBn := hid (HB.out.trans (hb.mono HB.out.size))
        clear HB Q1 Q2 Q3 Q4 Q5 Q6
        have HB := HBn
        have Q1 := Q1n
        have Q2 := Q2n
        have Q3 := Q3n
        have Q4 := Q4n
        have Q5 := Q5n
        have Q6 := Q6n
        clear HBn Q1n Q2n Q3n Q4n Q5n Q6n
        have Q7 := hid hq
        clear hb hq
        (try simp only [Act.put, List.getElem_toArray, List.getElem_cons_succ, List.getElem_cons_zero, List.setIfInBounds_toArray, List.set_cons_zero, List.set_cons_succ])
        refine wpLA_take (.slice B7 ((b1 ++ b2) ++ (b3 ++ [sb])).length d7) (yG_val _ (by rfl) (fun w' _ => by (go_simp; try rfl))) ?_
        (try simp only [Act.put, List.getElem_toArray, List.getElem_cons_succ, List.getElem_cons_zero, List.setIfInBounds_toArray, List.set_cons_zero, List.set_cons_succ])
        refine wpLA_end ?_
        intro we hb
        have Q1n := hid ((Q1.out.below hb).more hb.size)
        have Q2n := hid ((Q2.out.below hb).more hb.size)
        have Q3n := hid ((Q3.out.below hb).more hb.size)
        have Q4n := hid ((Q4.out.below hb).more hb.size)
        have Q5n := hid ((Q5.out.below hb).more hb.size)
        have Q6n := hid ((Q6.out.below hb).more hb.size)
        have Q7n := hid ((Q7.out.below hb).more hb.size)
        have HBn := hid (HB.out.trans (hb.mono HB.out.size))
        clear HB Q1 Q2 Q3 Q4 Q5 Q6 Q7
        have HB := HBn
        have Q1 := Q1n
        have Q2 := Q2n
        have Q3 := Q3n
        have Q4 := Q4n
        have Q5 := Q5n
        have Q6 := Q6n
        have Q7 := Q7n
        clear HBn Q1n Q2n Q3n Q4n Q5n Q6n Q7n
        clear hb
        obtain ⟨m, hm⟩ : ∃ t, t = (b1 ++ b2) ++ (b3 ++ [sb]) := ⟨_, rfl⟩
        rw [← hm] at Q7 HA ⊢
        have HML : Hid (m.length ≤ 400000) := hid (by rw [hm]; have := HN.out; simp only [List.length_append, List.length_cons, List.length_nil]; omega)
        clear hm
        have K2 := (HB.out.block _ (block_lt K1.out)).trans K1.out
        have c3 := cell_of K2 3 _ rfl; have c4 := cell_of K2 4 _ rfl
        by_cases h3 : x.src = 3
        · have h3i : (x.src : Int) = 3 := by omega
          rw [if_pos h3] at HA
          go_wp2_with fail
          refine (HV4.out _ HB.out).mono ?_
          rintro e wf ⟨A8, c8, rfl, hs8, hb⟩
          have Q8 := hid hs8
          have QM := hid ((Q7.out.below hb).more hb.size)
          have HBn := hid (HB.out.trans (hb.mono HB.out.size))
          clear hs8 hb HB
          go_wp2_with fail
          refine (join16 B7 m d7 A8 b4 c8 wf QM.out.lie Q8.out.lie (by have := HML.out; omega) (by have := HN.out; omega)).mono ?_
          rintro e wg ⟨A9, c9, rfl, hs9, hb⟩
          have HB := hid (HW0.out.trans ((HBn.out.trans (hb.mono HBn.out.size)).mono HW0.out.size))
          have Q9 := hid hs9
          clear hs9 hb HBn
          go_wp2
          go_ret
          exact ⟨A9, c9, by rw [HA.out, List.length_append]; rfl, by rw [HA.out]; exact Q9.out, HB.out⟩
        · have h3i : ¬ (x.src : Int) = 3 := by omega
          rw [if_neg h3, List.append_nil] at HA
          go_wp2
          go_ret
          exact ⟨B7, d7, by rw [HA.out]; rfl, by rw [HA.out]; exact Q7.out, HW0.out.trans (HB.out.mono HW0.out.size)⟩
    · intro p2 v2 hb hq
      have Q1n := hid ((Q1.out.below hb).more hb.size)
      have HBn := hid (HB.out.trans (hb.mono HB.out.size))
      clear HB Q1
      have HB := HBn
      have Q1 := Q1n
      clear HBn Q1n
      have Q2 := hid hq
      clear hb hq
      (try simp only [Act.put, List.getElem_toArray, List.getElem_cons_succ, List.getElem_cons_zero, List.setIfInBounds_toArray, List.set_cons_zero, List.set_cons_succ])
      refine wpGrA_q (i := 5) (b2) rfl (by kernel_rfl) (by rfl) (fun w' => by go_simp) (fun w' hb => (HV2.out w' (HB.out.trans (hb.mono HB.out.size)))) ?_
      intro B3 d3 v3 hb hq
      have Q1n := hid ((Q1.out.below hb).more hb.size)
      have Q2n := hid ((Q2.out.below hb).more hb.size)
      have HBn := hid (HB.out.trans (hb.mono HB.out.size))
      clear HB Q1 Q2
      have HB := HBn
      have Q1 := Q1n
      have Q2 := Q2n
      clear HBn Q1n Q2n
      have Q3 := hid hq
      clear hb hq
      (try simp only [Act.put, List.getElem_toArray, List.getElem_cons_succ, List.getElem_cons_zero, List.setIfInBounds_toArray, List.set_cons_zero, List.set_cons_succ])
      refine wpGrA_q (i := 6) (b1 ++ b2) rfl (by kernel_rfl) (by rfl) (fun w' => by go_simp) (fun w' hb => (join16 B1 (b1) d1 B3 (b2) d3 w' ((Q1.out.below hb).more hb.size).lie ((Q3.out.below hb).more hb.size).lie (by have := HN.out; (try simp only [List.length_append, List.length_cons, List.length_nil]); omega) (by have := HN.out; (try simp only [List.length_append, List.length_cons, List.length_nil]); omega))) ?_
      intro B4 d4 v4 hb hq
      have Q1n := hid ((Q1.out.below hb).more hb.size)
      have Q2n := hid ((Q2.out.below hb).more hb.size)
      have Q3n := hid ((Q3.out.below hb).more hb.size)
      have HBn := hid (HB.out.trans (hb.mono HB.out.size))
      clear HB Q1 Q2 Q3
      have HB := HBn
      have Q1 := Q1n
      have Q2 := Q2n
      have Q3 := Q3n
      clear HBn Q1n Q2n Q3n
      have Q4 := hid hq
      clear hb hq
      (try simp only [Act.put, List.getElem_toArray, List.getElem_cons_succ, List.getElem_cons_zero, List.setIfInBounds_toArray, List.set_cons_zero, List.set_cons_succ])
      refine wpGrA_q (i := 9) (b3) rfl (by kernel_rfl) (by rfl) (fun w' => by go_simp) (fun w' hb => (HV3.out w' (HB.out.trans (hb.mono HB.out.size)))) ?_
      intro B5 d5 v5 hb hq
      have Q1n := hid ((Q1.out.below hb).more hb.size)
      have Q2n := hid ((Q2.out.below hb).more hb.size)
      have Q3n := hid ((Q3.out.below hb).more hb.size)
      have Q4n := hid ((Q4.out.below hb).more hb.size)
      have HBn := hid (HB.out.trans (hb.mono HB.out.size))
      clear HB Q1 Q2 Q3 Q4
      have HB := HBn
      have Q1 := Q1n
      have Q2 := Q2n
      have Q3 := Q3n
      have Q4 := Q4n
      clear HBn Q1n Q2n Q3n Q4n
      have Q5 := hid hq
      clear hb hq
      (try simp only [Act.put, List.getElem_toArray, List.getElem_cons_succ, List.getElem_cons_zero, List.setIfInBounds_toArray, List.set_cons_zero, List.set_cons_succ])
      refine wpGrA_end (by kernel_rfl) ?_
      intro wz hb
      have Q1n := hid ((Q1.out.below hb).more hb.size)
      have Q2n := hid ((Q2.out.below hb).more hb.size)
      have Q3n := hid ((Q3.out.below hb).more hb.size)
      have Q4n := hid ((Q4.out.below hb).more hb.size)
      have Q5n := hid ((Q5.out.below hb).more hb.size)
      have HBn := hid (HB.out.trans (hb.mono HB.out.size))
      clear HB Q1 Q2 Q3 Q4 Q5
      have HB := HBn
      have Q1 := Q1n
      have Q2 := Q2n
      have Q3 := Q3n
      have Q4 := Q4n
      have Q5 := Q5n
      clear HBn Q1n Q2n Q3n Q4n Q5n
      clear hb
      refine wpLA_here ?_
      refine wpLA_q (b3 ++ [sb]) (by rfl) (fun w' => by go_simp) (fun w' hb => (join16 B5 b3 d5 (some ⟨p2, 0, none⟩) [sb] 1 w' ((Q5.out.below hb).more hb.size).lie (by have h := ((Q2.out.below hb).more hb.size).lie; rw [HSB.out]; exact h) (by have := HN.out; (try simp only [List.length_append, List.length_cons, List.length_nil]); omega) (by have := HN.out; (try simp only [List.length_append, List.length_cons, List.length_nil]); omega))) ?_
      intro B6 d6 v6 hb hq
      have Q1n := hid ((Q1.out.below hb).more hb.size)
      have Q2n := hid ((Q2.out.below hb).more hb.size)
      have Q3n := hid ((Q3.out.below hb).more hb.size)
      have Q4n := hid ((Q4.out.below hb).more hb.size)
      have Q5n := hid ((Q5.out.below hb).more hb.size)
      have HBn := hid (HB.out.trans (hb.mono HB.out.size))
      clear HB Q1 Q2 Q3 Q4 Q5
      have HB := HBn
      have Q1 := Q1n
      have Q2 := Q2n
      have Q3 := Q3n
      have Q4 := Q4n
      have Q5 := Q5n
      clear HBn Q1n Q2n Q3n Q4n Q5n
      have Q6 := hid hq
      clear hb hq
      (try simp only [Act.put, List.getElem_toArray, List.getElem_cons_succ, List.getElem_cons_zero, List.setIfInBounds_toArray, List.set_cons_zero, List.set_cons_succ])
      refine wpLA_q ((b1 ++ b2) ++ (b3 ++ [sb])) (by rfl) (fun w' => by go_simp) (fun w' hb => (join16 B4 (b1 ++ b2) d4 B6 (b3 ++ [sb]) d6 w' ((Q4.out.below hb).more hb.size).lie ((Q6.out.below hb).more hb.size).lie (by have := HN.out; (try simp only [List.length_append, List.length_cons, List.length_nil]); omega) (by have := HN.out; (try simp only [List.length_append, List.length_cons, List.length_nil]); omega))) ?_
      intro B7 d7 v7 hb hq
      have Q1n := hid ((Q1.out.below hb).more hb.size)
      have Q2n := hid ((Q2.out.below hb).more hb.size)
      have Q3n := hid ((Q3.out.below hb).more hb.size)
      have Q4n := hid ((Q4.out.below hb).more hb.size)
      have Q5n := hid ((Q5.out.below hb).more hb.size)
      have Q6n := hid ((Q6.out.below hb).more hb.size)
      have HBn := hid (HB.out.trans (hb.mono HB.out.size))
      clear HB Q1 Q2 Q3 Q4 Q5 Q6
      have HB := HBn
      have Q1 := Q1n
      have Q2 := Q2n
      have Q3 := Q3n
      have Q4 := Q4n
      have Q5 := Q5n
      have Q6 := Q6n
      clear HBn Q1n Q2n Q3n Q4n Q5n Q6n
      have Q7 := hid hq
      clear hb hq
      (try simp only [Act.put, List.getElem_toArray, List.getElem_cons_succ, List.getElem_cons_zero, List.setIfInBounds_toArray, List.set_cons_zero, List.set_cons_succ])
      refine wpLA_take (.slice B7 ((b1 ++ b2) ++ (b3 ++ [sb])).length d7) (yG_val _ (by rfl) (fun w' _ => by (go_simp; try rfl))) ?_
      (try simp only [Act.put, List.getElem_toArray, List.getElem_cons_succ, List.getElem_cons_zero, List.setIfInBounds_toArray, List.set_cons_zero, List.set_cons_succ])
      refine wpLA_end ?_
      intro we hb
      have Q1n := hid ((Q1.out.below hb).more hb.size)
      have Q2n := hid ((Q2.out.below hb).more hb.size)
      have Q3n := hid ((Q3.out.below hb).more hb.size)
      have Q4n := hid ((Q4.out.below hb).more hb.size)
      have Q5n := hid ((Q5.out.below hb).more hb.size)
      have Q6n := hid ((Q6.out.below hb).more hb.size)
      have Q7n := hid ((Q7.out.below hb).more hb.size)
      have HBn := hid (HB.out.trans (hb.mono HB.out.size))
      clear HB Q1 Q2 Q3 Q4 Q5 Q6 Q7
      have HB := HBn
      have Q1 := Q1n
      have Q2 := Q2n
      have Q3 := Q3n
      have Q4 := Q4n
      have Q5 := Q5n
      have Q6 := Q6n
      have Q7 := Q7n
      clear HBn Q1n Q2n Q3n Q4n Q5n Q6n Q7n
      clear hb
      obtain ⟨m, hm⟩ : ∃ t, t = (b1 ++ b2) ++ (b3 ++ [sb]) := ⟨_, rfl⟩
      rw [← hm] at Q7 HA ⊢
      have HML : Hid (m.length ≤ 400000) := hid (by rw [hm]; have := HN.out; simp only [List.length_append, List.length_cons, List.length_nil]; omega)
      clear hm
      have K2 := (HB.out.block _ (block_lt K1.out)).trans K1.out
      have c3 := cell_of K2 3 _ rfl; have c4 := cell_of K2 4 _ rfl
      by_cases h3 : x.src = 3
      · have h3i : (x.src : Int) = 3 := by omega
        rw [if_pos h3] at HA
        go_wp2_with fail
        refine (HV4.out _ HB.out).mono ?_
        rintro e wf ⟨A8, c8, rfl, hs8, hb⟩
        have Q8 := hid hs8
        have QM := hid ((Q7.out.below hb).more hb.size)
        have HBn := hid (HB.out.trans (hb.mono HB.out.size))
        clear hs8 hb HB
        go_wp2_with fail
        refine (join16 B7 m d7 A8 b4 c8 wf QM.out.lie Q8.out.lie (by have := HML.out; omega) (by have := HN.out; omega)).mono ?_
        rintro e wg ⟨A9, c9, rfl, hs9, hb⟩
        have HB := hid (HW0.out.trans ((HBn.out.trans (hb.mono HBn.out.size)).mono HW0.out.size))
        have Q9 := hid hs9
        clear hs9 hb HBn
        go_wp2
        go_ret
        exact ⟨A9, c9, by rw [HA.out, List.length_append]; rfl, by rw [HA.out]; exact Q9.out, HB.out⟩
      · have h3i : ¬ (x.src : Int) = 3 := by omega
        rw [if_neg h3, List.append_nil] at HA
        go_wp2
        go_ret
        exact ⟨B7, d7, by rw [HA.out]; rfl, by rw [HA.out]; exact Q7.out, HW0.out.trans (HB.out.mono HW0.out.size)⟩
  · intro p1 v1 hb hq
    have HBn := hid (HB.out.trans (hb.mono HB.out.size))
    clear HB 
    have HB := HBn
    clear HBn 
    have Q1 := hid hq
    clear hb hq
    (try simp only [Act.put, List.getElem_toArray, List.getElem_cons_succ, List.getElem_cons_zero, List.setIfInBounds_toArray, List.set_cons_zero, List.set_cons_succ])
    refine wpGrA_q (i := 2) (b1) rfl (by kernel_rfl) (by rfl) (fun w' => by go_simp) (fun w' hb => (HV1.out w' (HB.out.trans (hb.mono HB.out.size)))) ?_
    intro B2 d2 v2 hb hq
    have Q1n := hid ((Q1.out.below hb).more hb.size)
    have HBn := hid (HB.out.trans (hb.mono HB.out.size))
    clear HB Q1
    have HB := HBn
    have Q1 := Q1n
    clear HBn Q1n
    have Q2 := hid hq
    clear hb hq
    (try simp only [Act.put, List.getElem_toArray, List.getElem_cons_succ, List.getElem_cons_zero, List.setIfInBounds_toArray, List.set_cons_zero, List.set_cons_succ])
    refine wpGrA_q (i := 5) (b2) rfl (by kernel_rfl) (by rfl) (fun w' => by go_simp) (fun w' hb => (HV2.out w' (HB.out.trans (hb.mono HB.out.size)))) ?_
    intro B3 d3 v3 hb hq
    have Q1n := hid ((Q1.out.below hb).more hb.size)
    have Q2n := hid ((Q2.out.below hb).more hb.size)
    have HBn := hid (HB.out.trans (hb.mono HB.out.size))
    clear HB Q1 Q2
    have HB := HBn
    have Q1 := Q1n
    have Q2 := Q2n
    clear HBn Q1n Q2n
    have Q3 := hid hq
    clear hb hq
    (try simp only [Act.put, List.getElem_toArray, List.getElem_cons_succ, List.getElem_cons_zero, List.setIfInBounds_toArray, List.set_cons_zero, List.set_cons_succ])
    refine wpGrA_q (i := 6) (b1 ++ b2) rfl (by kernel_rfl) (by rfl) (fun w' => by go_simp) (fun w' hb => (join16 B2 (b1) d2 B3 (b2) d3 w' ((Q2.out.below hb).more hb.size).lie ((Q3.out.below hb).more hb.size).lie (by have := HN.out; (try simp only [List.length_append, List.length_cons, List.length_nil]); omega) (by have := HN.out; (try simp only [List.length_append, List.length_cons, List.length_nil]); omega))) ?_
    intro B4 d4 v4 hb hq
    have Q1n := hid ((Q1.out.below hb).more hb.size)
    have Q2n := hid ((Q2.out.below hb).more hb.size)
    have Q3n := hid ((Q3.out.below hb).more hb.size)
    have HBn := hid (HB.out.trans (hb.mono HB.out.size))
    clear HB Q1 Q2 Q3
    have HB := HBn
    have Q1 := Q1n
    have Q2 := Q2n
    have Q3 := Q3n
    clear HBn Q1n Q2n Q3n
    have Q4 := hid hq
    clear hb hq
    (try simp only [Act.put, List.getElem_toArray, List.getElem_cons_succ, List.getElem_cons_zero, List.setIfInBounds_toArray, List.set_cons_zero, List.set_cons_succ])
    refine wpGrA_q (i := 9) (b3) rfl (by kernel_rfl) (by rfl) (fun w' => by go_simp) (fun w' hb => (HV3.out w' (HB.out.trans (hb.mono HB.out.size)))) ?_
    intro B5 d5 v5 hb hq
    have Q1n := hid ((Q1.out.below hb).more hb.size)
    have Q2n := hid ((Q2.out.below hb).more hb.size)
    have Q3n := hid ((Q3.out.below hb).more hb.size)
    have Q4n := hid ((Q4.out.below hb).more hb.size)
    have HBn := hid (HB.out.trans (hb.mono HB.out.size))
    clear HB Q1 Q2 Q3 Q4
    have HB := HBn
    have Q1 := Q1n
    have Q2 := Q2n
    have Q3 := Q3n
    have Q4 := Q4n
    clear HBn Q1n Q2n Q3n Q4n
    have Q5 := hid hq
    clear hb hq
    (try simp only [Act.put, List.getElem_toArray, List.getElem_cons_succ, List.getElem_cons_zero, List.setIfInBounds_toArray, List.set_cons_zero, List.set_cons_succ])
    refine wpGrA_end (by kernel_rfl) ?_
    intro wz hb
    have Q1n := hid ((Q1.out.below hb).more hb.size)
    have Q2n := hid ((Q2.out.below hb).more hb.size)
    have Q3n := hid ((Q3.out.below hb).more hb.size)
    have Q4n := hid ((Q4.out.below hb).more hb.size)
    have Q5n := hid ((Q5.out.below hb).more hb.size)
    have HBn := hid (HB.out.trans (hb.mono HB.out.size))
    clear HB Q1 Q2 Q3 Q4 Q5
    have HB := HBn
    have Q1 := Q1n
    have Q2 := Q2n
    have Q3 := Q3n
    have Q4 := Q4n
    have Q5 := Q5n
    clear HBn Q1n Q2n Q3n Q4n Q5n
    clear hb
    refine wpLA_here ?_
    refine wpLA_q (b3 ++ [sb]) (by rfl) (fun w' => by go_simp) (fun w' hb => (join16 B5 b3 d5 (some ⟨p1, 0, none⟩) [sb] 1 w' ((Q5.out.below hb).more hb.size).lie (by have h := ((Q1.out.below hb).more hb.size).lie; rw [HSB.out]; exact h) (by have := HN.out; (try simp only [List.length_append, List.length_cons, List.length_nil]); omega) (by have := HN.out; (try simp only [List.length_append, List.length_cons, List.length_nil]); omega))) ?_
    intro B6 d6 v6 hb hq
    have Q1n := hid ((Q1.out.below hb).more hb.size)
    have Q2n := hid ((Q2.out.below hb).more hb.size)
    have Q3n := hid ((Q3.out.below hb).more hb.size)
    have Q4n := hid ((Q4.out.below hb).more hb.size)
    have Q5n := hid ((Q5.out.below hb).more hb.size)
    have HBn := hid (HB.out.trans (hb.mono HB.out.size))
    clear HB Q1 Q2 Q3 Q4 Q5
    have HB := HBn
    have Q1 := Q1n
    have Q2 := Q2n
    have Q3 := Q3n
    have Q4 := Q4n
    have Q5 := Q5n
    clear HBn Q1n Q2n Q3n Q4n Q5n
    have Q6 := hid hq
    clear hb hq
    (try simp only [Act.put, List.getElem_toArray, List.getElem_cons_succ, List.getElem_cons_zero, List.setIfInBounds_toArray, List.set_cons_zero, List.set_cons_succ])
    refine wpLA_q ((b1 ++ b2) ++ (b3 ++ [sb])) (by rfl) (fun w' => by go_simp) (fun w' hb => (join16 B4 (b1 ++ b2) d4 B6 (b3 ++ [sb]) d6 w' ((Q4.out.below hb).more hb.size).lie ((Q6.out.below hb).more hb.size).lie (by have := HN.out; (try simp only [List.length_append, List.length_cons, List.length_nil]); omega) (by have := HN.out; (try simp only [List.length_append, List.length_cons, List.length_nil]); omega))) ?_
    intro B7 d7 v7 hb hq
    have Q1n := hid ((Q1.out.below hb).more hb.size)
    have Q2n := hid ((Q2.out.below hb).more hb.size)
    have Q3n := hid ((Q3.out.below hb).more hb.size)
    have Q4n := hid ((Q4.out.below hb).more hb.size)
    have Q5n := hid ((Q5.out.below hb).more hb.size)
    have Q6n := hid ((Q6.out.below hb).more hb.size)
    have HBn := hid (HB.out.trans (hb.mono HB.out.size))
    clear HB Q1 Q2 Q3 Q4 Q5 Q6
    have HB := HBn
    have Q1 := Q1n
    have Q2 := Q2n
    have Q3 := Q3n
    have Q4 := Q4n
    have Q5 := Q5n
    have Q6 := Q6n
    clear HBn Q1n Q2n Q3n Q4n Q5n Q6n
    have Q7 := hid hq
    clear hb hq
    (try simp only [Act.put, List.getElem_toArray, List.getElem_cons_succ, List.getElem_cons_zero, List.setIfInBounds_toArray, List.set_cons_zero, List.set_cons_succ])
    refine wpLA_take (.slice B7 ((b1 ++ b2) ++ (b3 ++ [sb])).length d7) (yG_val _ (by rfl) (fun w' _ => by (go_simp; try rfl))) ?_
    (try simp only [Act.put, List.getElem_toArray, List.getElem_cons_succ, List.getElem_cons_zero, List.setIfInBounds_toArray, List.set_cons_zero, List.set_cons_succ])
    refine wpLA_end ?_
    intro we hb
    have Q1n := hid ((Q1.out.below hb).more hb.size)
    have Q2n := hid ((Q2.out.below hb).more hb.size)
    have Q3n := hid ((Q3.out.below hb).more hb.size)
    have Q4n := hid ((Q4.out.below hb).more hb.size)
    have Q5n := hid ((Q5.out.below hb).more hb.size)
    have Q6n := hid ((Q6.out.below hb).more hb.size)
    have Q7n := hid ((Q7.out.below hb).more hb.size)
    have HBn := hid (HB.out.trans (hb.mono HB.out.size))
    clear HB Q1 Q2 Q3 Q4 Q5 Q6 Q7
    have HB := HBn
    have Q1 := Q1n
    have Q2 := Q2n
    have Q3 := Q3n
    have Q4 := Q4n
    have Q5 := Q5n
    have Q6 := Q6n
    have Q7 := Q7n
    clear HBn Q1n Q2n Q3n Q4n Q5n Q6n Q7n
    clear hb
    obtain ⟨m, hm⟩ : ∃ t, t = (b1 ++ b2) ++ (b3 ++ [sb]) := ⟨_, rfl⟩
    rw [← hm] at Q7 HA ⊢
    have HML : Hid (m.length ≤ 400000) := hid (by rw [hm]; have := HN.out; simp only [List.length_append, List.length_cons, List.length_nil]; omega)
    clear hm
    have K2 := (HB.out.block _ (block_lt K1.out)).trans K1.out
    have c3 := cell_of K2 3 _ rfl; have c4 := cell_of K2 4 _ rfl
    by_cases h3 : x.src = 3
    · have h3i : (x.src : Int) = 3 := by omega
      rw [if_pos h3] at HA
      go_wp2_with fail
      refine (HV4.out _ HB.out).mono ?_
      rintro e wf ⟨A8, c8, rfl, hs8, hb⟩
      have Q8 := hid hs8
      have QM := hid ((Q7.out.below hb).more hb.size)
      have HBn := hid (HB.out.trans (hb.mono HB.out.size))
      clear hs8 hb HB
      go_wp2_with fail
      refine (join16 B7 m d7 A8 b4 c8 wf QM.out.lie Q8.out.lie (by have := HML.out; omega) (by have := HN.out; omega)).mono ?_
      rintro e wg ⟨A9, c9, rfl, hs9, hb⟩
      have HB := hid (HW0.out.trans ((HBn.out.trans (hb.mono HBn.out.size)).mono HW0.out.size))
      have Q9 := hid hs9
      clear hs9 hb HBn
      go_wp2
      go_ret
      exact ⟨A9, c9, by rw [HA.out, List.length_append]; rfl, by rw [HA.out]; exact Q9.out, HB.out⟩
    · have h3i : ¬ (x.src : Int) = 3 := by omega
      rw [if_neg h3, List.append_nil] at HA
      go_wp2
      go_ret
      exact ⟨B7, d7, by rw [HA.out]; rfl, by rw [HA.out]; exact Q7.out, HW0.out.trans (HB.out.mono HW0.out.size)⟩
end Go.Proofs.YtgehfbcagaaggaaGreatDoor
end
section
namespace Go.Proofs.YtgehfbcagaaggaaGreatDoor
open Go Go.RowKit
set_option linter.unusedVariables false
set_option linter.unusedSimpArgs false
def labS : ByteArray := ⟨#[76, 101, 97, 102, 78, 111, 100, 101, 84, 66, 83]⟩
def textL (x : Lf) (group : List UInt8) (at' : Int) : List UInt8 := if x.src = 1 then aheadB x else aheadB x ++ (vecBytes group ++ beBytes 4 at'.toNat)
theorem lf_six {W : World} {g : Nat} {x : Lf} {a : LA} (K : W.heap[g]? = some (.cells (lfV x a) LfT (0, 0))) :
    W.cell? ⟨g, 0, none⟩ = some (.slice a.a0 x.box.length a.c0) ∧ W.cell? ⟨g, 1, none⟩ = some (.slice a.a1 x.sign.length a.c1) ∧ W.cell? ⟨g, 2, none⟩ = some (.slice a.a2 x.ident.length a.c2) ∧ W.cell? ⟨g, 3, none⟩ = some (.int .u8 (x.src : Int)) ∧ W.cell? ⟨g, 4, none⟩ = some (.slice a.a3 x.par.length a.c3) ∧ W.cell? ⟨g, 5, none⟩ = some (.slice a.a4 x.sig.length a.c4) :=
  ⟨cell_of K 0 _ rfl, cell_of K 1 _ rfl, cell_of K 2 _ rfl, cell_of K 3 _ rfl, cell_of K 4 _ rfl, cell_of K 5 _ rfl⟩
theorem ahead_le' {x : Lf} (h : Lf200 x) : (aheadB x).length ≤ 500000 := by
  have v1 := vec_le (xs := x.box) (by have := h.1; omega); have v2 := vec_le (xs := x.sign) (by have := h.2.1; omega); have v3 := vec_le (xs := x.ident) (by have := h.2.2.1; omega); have v4 := vec_le (xs := x.par) (by have := h.2.2.2.1; omega)
  unfold aheadB
  simp only [List.length_append, List.length_cons, List.length_nil]
  split
  · omega
  · simp only [List.length_nil]; omega
theorem u64_at (z : Int) (h0 : 0 ≤ z) (h1 : z ≤ 65535) : IntKind.u64.wrap z = ((z.toNat : Nat) : Int) := by
  rw [Int.toNat_of_nonneg h0]
  exact IntWalk.u64_in _ (by omega)
set_option maxRecDepth 100000 in
set_option maxHeartbeats 1000000 in
theorem Text16_any (x : Lf) (a : LA) (A : Option Addr) (gs : List UInt8) (c : Nat) (at' : Int) (w : World) (hx : LfIn w x a) (hl : Lf200 x) (hg : Lie w w.heap.size A (bvs gs)) (hgl : gs.length ≤ 1000) (hat : x.src = 1 ∨ (0 ≤ at' ∧ at' ≤ 65535)) :
    Calls Tryz.prog 12 #[.agg (lfV x a), .slice A gs.length c, .int .i64 at'] w (RetQ w (textL x gs at')) := by
  obtain ⟨W0, hW0⟩ : ∃ W, W = w.alloc (.cells (lfV x a) LfT) := ⟨_, rfl⟩
  have HB0 : Hid (Below w.heap.size w W0) := hid (by rw [hW0]; exact (Below.refl _ _).alloc (Nat.le_refl _) _)
  have K0 : Hid (W0.heap[w.heap.size]? = some (.cells (lfV x a) LfT (0, 0))) := hid (by rw [hW0]; exact heap_alloc_new w _)
  have HX := hid (hx.on HB0.out); have HG := hid (lie_to hg HB0.out)
  have HW := hid hW0
  have HAH : Hid (∀ W, Below W0.heap.size W0 W → Calls Tryz.prog 25 #[.agg (lfV x a)] W (RetQ W (aheadB x))) := hid fun W h => Ahead16_any x a W (HX.out.on h) hl
  have HVG : Hid (∀ W, Below W0.heap.size W0 W → Calls Tryz.prog 27 #[.slice A gs.length c] W (RetQ W (vecBytes gs))) := hid fun W h => VecQ _ _ _ W (by omega) (lie_to HG.out h)
  have hal := ahead_le' hl; have hvl := vec_le (xs := gs) (by omega)
  obtain ⟨ah, hah⟩ : ∃ t, t = aheadB x := ⟨_, rfl⟩
  obtain ⟨vg, hvg⟩ : ∃ t, t = vecBytes gs := ⟨_, rfl⟩
  rw [← hah] at HAH hal
  rw [← hvg] at HVG hvl
  have HLA := hid hal; have HLV := hid hvl
  have HT : Hid (textL x gs at' = if x.src = 1 then ah else ah ++ (vg ++ beBytes 4 at'.toNat)) := hid (by unfold textL; rw [hah, hvg])
  clear hx hg hW0 hal hvl hah hvg hl
  by_cases h1 : x.src = 1
  · have hc : (x.src : Int) = 1 := by omega
    rw [if_pos h1] at HT
    rw [HT.out]
    obtain ⟨q0, q1, q2, q3, q4, q5⟩ := lf_six K0.out
    rw [h1] at q3
    clear hat
    go_enter Tryz.func12, Tryz.ntmps12
    go_upto_region 1 with fail
    rw [← HW.out]
    go_wp2_with (with_reducible refine wpList_load_row rfl LfT (.tmp 3) rfl w.heap.size rfl LfT (lfV x a) (0, 0) _ K0.out Tryz.underlying24 rfl infoLf ?_)
    refine (HAH.out _ (Below.refl _ _)).mono ?_
    rintro e w1 ⟨A1, c1, rfl, hq, hb⟩
    have HB := hid hb; have HQ := hid hq
    clear hb hq
    go_wp2
    go_ret
    exact ⟨A1, c1, rfl, HQ.out, HB0.out.trans (HB.out.mono HB0.out.size)⟩
  · have hc : ¬ (x.src : Int) = 1 := by omega
    rw [if_neg h1] at HT
    rw [HT.out]
    have h0 : 0 ≤ at' ∧ at' ≤ 65535 := by rcases hat with h | h; exact absurd h h1; exact h
    have hu := u64_at at' h0.1 h0.2
    have HNM : Hid (∀ W, Calls Tryz.prog 28 #[.int .i64 4, .int .u64 ((at'.toNat : Nat) : Int)] W (RetQ W (beBytes 4 at'.toNat))) := hid fun W => NumQ 4 at'.toNat W (by decide) (by omega)
    obtain ⟨nb, hnb⟩ : ∃ t, t = beBytes 4 at'.toNat := ⟨_, rfl⟩
    have hnl : nb.length = 4 := by rw [hnb]; exact beBytes_length 4 _
    rw [← hnb] at HNM ⊢
    have HNL := hid hnl
    obtain ⟨an, han⟩ : ∃ t, t = at'.toNat := ⟨_, rfl⟩
    rw [← han] at hu HNM
    obtain ⟨q0, q1, q2, q3, q4, q5⟩ := lf_six K0.out
    obtain ⟨vn, hvn⟩ : ∃ t, t = vg ++ nb := ⟨_, rfl⟩
    obtain ⟨tt, htt⟩ : ∃ t, t = ah ++ vn := ⟨_, rfl⟩
    have HVN := hid hvn; have HTT := hid htt
    rw [← hvn, ← htt]
    clear hat h0 hnb han hnl h1 hvn htt
    go_enter Tryz.func12, Tryz.ntmps12
    go_upto_region 1 with fail
    rw [← HW.out]
    go_wp2_with (with_reducible refine wpList_load_row rfl LfT (.tmp 3) rfl w.heap.size rfl LfT (lfV x a) (0, 0) _ K0.out Tryz.underlying24 rfl infoLf ?_)
    refine (HAH.out _ (Below.refl _ _)).mono ?_
    rintro e w1 ⟨A1, c1, rfl, hq, hb⟩
    have HB1 := hid hb; have HQ1 := hid hq
    clear hb hq q0 q1 q2 q3 q4 q5
    go_wp2_with fail
    refine (HVG.out _ HB1.out).mono ?_
    rintro e w2 ⟨A2, c2, rfl, hq, hb⟩
    have HB2 := hid (HB1.out.trans (hb.mono HB1.out.size)); have HQ2 := hid hq; have HQ12 := hid ((HQ1.out.below hb).more hb.size)
    clear hb hq HB1 HQ1
    go_wp2_with fail
    refine (HNM.out _).mono ?_
    rintro e w3 ⟨A3, c3, rfl, hq, hb⟩
    have HB3 := hid (HB2.out.trans (hb.mono HB2.out.size)); have HQ3 := hid hq; have HQ13 := hid ((HQ12.out.below hb).more hb.size); have HQ23 := hid ((HQ2.out.below hb).more hb.size)
    clear hb hq HB2 HQ2 HQ12
    go_wp2_with fail
    have hj := join16 A2 vg c2 A3 nb c3 w3 HQ23.out.lie HQ3.out.lie (by have := HLV.out; omega) (by have := HNL.out; omega)
    rw [← HVN.out] at hj
    refine hj.mono ?_
    clear hj
    rintro e w4 ⟨A4, c4, rfl, hq, hb⟩
    have HB4 := hid (HB3.out.trans (hb.mono HB3.out.size)); have HQ4 := hid hq; have HQ14 := hid ((HQ13.out.below hb).more hb.size)
    clear hb hq HB3 HQ3 HQ23 HQ13
    go_wp2_with fail
    have hj := join16 A1 ah c1 A4 vn c4 w4 HQ14.out.lie HQ4.out.lie (by have := HLA.out; omega) (by rw [HVN.out, List.length_append]; have := HLV.out; have := HNL.out; omega)
    rw [← HTT.out] at hj
    refine hj.mono ?_
    clear hj
    rintro e w5 ⟨A5, c5, rfl, hq, hb⟩
    have HB5 := hid (HB4.out.trans (hb.mono HB4.out.size)); have HQ5 := hid hq
    clear hb hq
    go_wp2
    go_ret
    exact ⟨A5, c5, rfl, HQ5.out, HB0.out.trans (HB5.out.mono HB0.out.size)⟩
end Go.Proofs.YtgehfbcagaaggaaGreatDoor
end
section
namespace Go.Proofs.YtgehfbcagaaggaaGreatDoor
open Go Go.RowKit
set_option linter.unusedVariables false
set_option linter.unusedSimpArgs false
/-- A vector at a place: where the next one stands. -/
def vecN (xs : List UInt8) (i : Nat) : Nat := if (vecAt (xs.drop i)).2.2 = 0 then i + (lenAt (xs.drop i)).2.1 + (lenAt (xs.drop i)).1 else i
end Go.Proofs.YtgehfbcagaaggaaGreatDoor
end
section
namespace Go.Proofs.YtgehfbcagaaggaaGreatDoor
open Go Go.RowKit
set_option linter.unusedVariables false
set_option linter.unusedSimpArgs false
/-- Where the j-th vector stands; its bytes; the first error of some. -/
def posD (xs : List UInt8) (i : Nat) : Nat → Nat
  | 0 => i
  | j + 1 => vecN xs (posD xs i j)
def vecJ (xs : List UInt8) (i j : Nat) : List UInt8 := (vecAt (xs.drop (posD xs i j))).1
def errJ (xs : List UInt8) (i j : Nat) : Nat := (vecAt (xs.drop (posD xs i j))).2.2
def errD (xs : List UInt8) (i : Nat) : Nat → Nat
  | 0 => 0
  | j + 1 => if errD xs i j = 0 then errJ xs i j else errD xs i j
/-- Slices that read as lists of bytes, in memory below B. -/
def RowsAt (w : World) (B : Nat) (vs : List Value) (ls : List (List UInt8)) : Prop := vs.length = ls.length ∧ ∀ (j : Nat) (x : List UInt8), ls[j]? = some x → ∃ A c, vs[j]? = some (Value.slice A x.length c) ∧ Sq w B A c (bvs x)
theorem RowsAt.on {w w' : World} {B : Nat} {vs : List Value} {ls : List (List UInt8)} (h : RowsAt w B vs ls) (hb : Below B w w') : RowsAt w' B vs ls := ⟨h.1, fun j x hx => by obtain ⟨A, c, h1, h2⟩ := h.2 j x hx; exact ⟨A, c, h1, h2.below hb⟩⟩
end Go.Proofs.YtgehfbcagaaggaaGreatDoor
end
section
namespace Go.Proofs.YtgehfbcagaaggaaGreatDoor
open Go Go.RowKit
set_option linter.unusedVariables false
set_option linter.unusedSimpArgs false
/-- Where the bytes lie. -/
theorem sq_at {w : World} {B c : Nat} {A : Option Addr} {xs : List UInt8} (h : Sq w B A c (bvs xs)) (hx : 0 < xs.length) : ∃ b o, A = some ⟨b, o, none⟩ ∧ b < B ∧ ∀ k, k < xs.length → w.cell? ⟨b, o + k, none⟩ = some (.int .u8 ((xs.getD k 0).toNat : Int)) := by
  rcases h with ⟨h, _⟩ | ⟨b, o, hA, hb, _, _, hc⟩
  · have := congrArg List.length h
    rw [bvs_length, List.length_nil] at this
    omega
  · refine ⟨b, o, hA, hb, fun k hk => hc k _ ?_⟩
    rw [bvs, List.getElem?_map, List.getElem?_eq_getElem hk, List.getD_eq_getElem?_getD, List.getElem?_eq_getElem hk]
    rfl
abbrev lfZ : Array Value := #[.slice none 0 0, .slice none 0 0, .slice none 0 0, .int .u8 0, .slice none 0 0, .slice none 0 0]
theorem lfZ_size {x : Lf} {a : LA} : lfZ.size = (lfV x a).size := rfl
theorem lfV_one {x : Lf} {a : LA} : (lfV x a).all (·.oneCell') = true := by simp [Value.oneCell']
def srcJ (xs : List UInt8) (i : Nat) : Nat := (xs.getD i 0).toNat
def tlP (xs : List UInt8) (i : Nat) : Nat := posD xs i 3
def tlR (xs : List UInt8) (i : Nat) : Nat := if srcJ xs (tlP xs i) = 3 then posD xs (tlP xs i + 1) 1 else tlP xs i + 1
def tlF (xs : List UInt8) (i : Nat) : Lf := ⟨vecJ xs i 0, vecJ xs i 1, vecJ xs i 2, srcJ xs (tlP xs i), if srcJ xs (tlP xs i) = 3 then vecJ xs (tlP xs i + 1) 0 else [], vecJ xs (tlR xs i) 0⟩
def tlE (xs : List UInt8) (i : Nat) : Nat :=
  if errD xs i 3 ≠ 0 then errD xs i 3
  else if xs.length ≤ tlP xs i then 4
  else if srcJ xs (tlP xs i) = 0 ∨ 3 < srcJ xs (tlP xs i) then 3
  else if srcJ xs (tlP xs i) = 3 ∧ errD xs (tlP xs i + 1) 1 ≠ 0 then errD xs (tlP xs i + 1) 1
  else if errD xs (tlR xs i) 1 ≠ 0 then errD xs (tlR xs i) 1
  else if leafB (tlF xs i) then 0 else 3
def tlX (xs : List UInt8) (i : Nat) : Lf := if tlE xs i = 0 then tlF xs i else lf0
def tlN (xs : List UInt8) (i : Nat) : Nat := if tlE xs i = 0 then posD xs (tlR xs i) 1 else i
theorem build_lf (W : World) : (Instr.build LfT #[]).run Tryz.prog W = .ok (.agg (lfV lf0 la0)) W := run_build W LfT _ _ (by kernel_rfl)
/-- A leaf that lies below B. -/
def LfB (w : World) (B : Nat) (x : Lf) (a : LA) : Prop := Lie w B a.a0 (bvs x.box) ∧ Lie w B a.a1 (bvs x.sign) ∧ Lie w B a.a2 (bvs x.ident) ∧ Lie w B a.a3 (bvs x.par) ∧ Lie w B a.a4 (bvs x.sig)
def PrB (w : World) (B : Nat) (y : Pnt) (b : PA) : Prop := Lie w B b.a0 (bvs y.box) ∧ Lie w B b.a1 (bvs y.hash) ∧ Lie w B b.a2 (izs y.late)
theorem LfB.on {w w' : World} {B : Nat} {x : Lf} {a : LA} (h : LfB w B x a) (hb : Below B w w') : LfB w' B x a := ⟨h.1.below hb, h.2.1.below hb, h.2.2.1.below hb, h.2.2.2.1.below hb, h.2.2.2.2.below hb⟩
theorem LfB.in_ {w : World} {B : Nat} {x : Lf} {a : LA} (h : LfB w B x a) (hb : B ≤ w.heap.size) : LfIn w x a := ⟨h.1.more hb, h.2.1.more hb, h.2.2.1.more hb, h.2.2.2.1.more hb, h.2.2.2.2.more hb⟩
theorem PrB.on {w w' : World} {B : Nat} {y : Pnt} {b : PA} (h : PrB w B y b) (hb : Below B w w') : PrB w' B y b := ⟨h.1.below hb, h.2.1.below hb, h.2.2.below hb⟩
theorem PrB.in_ {w : World} {B : Nat} {y : Pnt} {b : PA} (h : PrB w B y b) (hb : B ≤ w.heap.size) : PrIn w y b := ⟨h.1.more hb, h.2.1.more hb, h.2.2.more hb⟩
end Go.Proofs.YtgehfbcagaaggaaGreatDoor
end
section
namespace Go.Proofs.YtgehfbcagaaggaaGreatDoor
open Go Go.RowKit
set_option linter.unusedVariables false
set_option linter.unusedSimpArgs false
abbrev ndZ : Array Value := #[.int .u8 0, .slice none 0 0, .slice none 0 0, .slice none 0 0, .int .u8 0, .slice none 0 0, .slice none 0 0, .slice none 0 0, .slice none 0 0, .slice none 0 0]
theorem ndZ_size {k : Nat} {x : Lf} {a : LA} {y : Pnt} {b : PA} : ndZ.size = (ndV k x a y b).size := rfl
theorem ndV_one {k : Nat} {x : Lf} {a : LA} {y : Pnt} {b : PA} : (ndV k x a y b).all (·.oneCell') = true := by simp [Value.oneCell']
/-- Numbers of four bytes each. -/
def lateAt (v : List UInt8) (j : Nat) : Int := ((((v.getD (4 * j) 0).toNat * 256 + (v.getD (4 * j + 1) 0).toNat) * 256 + (v.getD (4 * j + 2) 0).toNat) * 256 + (v.getD (4 * j + 3) 0).toNat : Nat)
def lateOf (v : List UInt8) (n : Nat) : List Int := (List.range n).map (lateAt v)
def tkU (xs : List UInt8) (i : Nat) : Pnt := ⟨vecJ xs (i + 1) 0, vecJ xs (i + 1) 1, lateOf (vecJ xs (i + 1) 2) ((vecJ xs (i + 1) 2).length / 4)⟩
def tkE (xs : List UInt8) (i : Nat) : Nat :=
  if xs.length ≤ i then 4
  else if srcJ xs i = 0 then 0
  else if srcJ xs i = 1 then tlE xs (i + 1)
  else if srcJ xs i ≠ 2 then 3
  else if errD xs (i + 1) 3 ≠ 0 then errD xs (i + 1) 3
  else if (vecJ xs (i + 1) 2).length % 4 = 0 ∧ parB (tkU xs i) = true then 0 else 3
def tkN (xs : List UInt8) (i : Nat) : Nat := if tkE xs i = 0 then (if srcJ xs i = 0 then i + 1 else if srcJ xs i = 1 then tlN xs (i + 1) else posD xs (i + 1) 3) else i
def tkK (xs : List UInt8) (i : Nat) : Nat := if tkE xs i = 0 then srcJ xs i else 0
def tkL (xs : List UInt8) (i : Nat) : Lf := if tkE xs i = 0 ∧ srcJ xs i = 1 then tlX xs (i + 1) else lf0
def tkP (xs : List UInt8) (i : Nat) : Pnt := if tkE xs i = 0 ∧ srcJ xs i = 2 then tkU xs i else pr0
/-- A parent that lies: its bytes below B, its numbers in memory that is new. -/
def PrF (w' : World) (B base : Nat) (y : Pnt) (b : PA) : Prop := Lie w' B b.a0 (bvs y.box) ∧ Lie w' B b.a1 (bvs y.hash) ∧ Lie w' w'.heap.size b.a2 (izs y.late) ∧ (izs y.late ≠ [] → ∃ g o, b.a2 = some ⟨g, o, none⟩ ∧ base ≤ g)
theorem PrF.in_ {w' : World} {B base : Nat} {y : Pnt} {b : PA} (h : PrF w' B base y b) (hB : B ≤ w'.heap.size) : PrIn w' y b := ⟨h.1.more hB, h.2.1.more hB, h.2.2.1⟩
theorem pr0_f (w' : World) (B base : Nat) : PrF w' B base pr0 pa0 := ⟨Lie.nil, Lie.nil, Lie.nil, fun h => absurd rfl h⟩
theorem lf0_b (w' : World) (B : Nat) : LfB w' B lf0 la0 := ⟨Lie.nil, Lie.nil, Lie.nil, Lie.nil, Lie.nil⟩
def TkOut (w : World) (B : Nat) (xs : List UInt8) (i : Nat) (e : Ending) (w' : World) : Prop := ∃ a b, e = .returned (.tuple #[.agg (ndV (tkK xs i) (tkL xs i) a (tkP xs i) b), .int .i64 (tkN xs i : Int), .int .i64 (tkE xs i : Int)]) ∧ LfB w' B (tkL xs i) a ∧ PrF w' B w.heap.size (tkP xs i) b ∧ Below w.heap.size w w'
theorem TkOut.nil {w w' : World} {B : Nat} {xs : List UInt8} {i : Nat} (hl : i < xs.length) (h : srcJ xs i = 0) (hb : Below w.heap.size w w') : TkOut w B xs i (.returned (.tuple #[.agg (ndV 0 lf0 la0 pr0 pa0), .int .i64 ((i + 1 : Nat) : Int), .int .i64 ((0 : Nat) : Int)])) w' := by
  have hE : tkE xs i = 0 := by unfold tkE; rw [if_neg (by omega), if_pos h]
  have h2 : tkL xs i = lf0 := by unfold tkL; rw [if_neg (by omega)]
  have h4 : tkP xs i = pr0 := by unfold tkP; rw [if_neg (by omega)]
  have h5 : tkK xs i = 0 := by unfold tkK; rw [if_pos hE, h]
  have h3 : tkN xs i = i + 1 := by unfold tkN; rw [if_pos hE, if_pos h]
  exact ⟨la0, pa0, by rw [h2, h3, h4, h5, hE], by rw [h2]; exact lf0_b _ _, by rw [h4]; exact pr0_f _ _ _, hb⟩
theorem put_far (w : World) {g : Nat} (cs : Array Value) {p : Addr} (h : p.block ≠ g) : (w.setRow g cs).cell? p = w.cell? p := by
  unfold World.cell?
  rw [setRow_other _ _ _ _ h]
theorem TkOut.par {w w' : World} {B : Nat} {xs : List UInt8} {i : Nat} {b : PA} (hl : i < xs.length) (h : srcJ xs i = 2) (h3 : errD xs (i + 1) 3 = 0) (hm : (vecJ xs (i + 1) 2).length % 4 = 0) (hp : parB (tkU xs i) = true) (hi : PrF w' B w.heap.size (tkU xs i) b) (hb : Below w.heap.size w w') : TkOut w B xs i (.returned (.tuple #[.agg (ndV 2 lf0 la0 (tkU xs i) b), .int .i64 (posD xs (i + 1) 3 : Int), .int .i64 ((0 : Nat) : Int)])) w' := by
  have hE : tkE xs i = 0 := by unfold tkE; rw [if_neg (by omega), if_neg (by omega), if_neg (by omega), if_neg (by omega), if_neg (by simp [h3]), if_pos ⟨hm, hp⟩]
  have h2 : tkL xs i = lf0 := by unfold tkL; rw [if_neg (by omega)]
  have h4 : tkP xs i = tkU xs i := by unfold tkP; rw [if_pos ⟨hE, h⟩]
  have h5 : tkK xs i = 2 := by unfold tkK; rw [if_pos hE, h]
  have h6 : tkN xs i = posD xs (i + 1) 3 := by unfold tkN; rw [if_pos hE, if_neg (by omega), if_neg (by omega)]
  exact ⟨la0, b, by rw [h2, h6, h4, h5, hE], by rw [h2]; exact lf0_b _ _, by rw [h4]; exact hi, hb⟩
end Go.Proofs.YtgehfbcagaaggaaGreatDoor
end
section
namespace Go.Proofs.YtgehfbcagaaggaaGreatDoor
open Go Go.RowKit
set_option linter.unusedVariables false
set_option linter.unusedSimpArgs false
/-- A leaf's bytes. -/
def leafBy (x : Lf) : List UInt8 := aheadB x ++ vecBytes x.sig
/-- Numbers of four bytes. -/
def lateBy (l : List Int) : List UInt8 := l.flatMap fun v => beBytes 4 v.toNat
theorem lateBy_length (l : List Int) : (lateBy l).length = 4 * l.length := by
  induction l with
  | nil => rfl
  | cons v l ih => rw [lateBy, List.flatMap_cons, List.length_append]; rw [lateBy] at ih; rw [ih, beBytes_length, List.length_cons]; omega
def nodeBy (k : Nat) (x : Lf) (u : Pnt) : List UInt8 := if k = 1 then [1] ++ leafBy x else if k = 2 then ([2] ++ vecBytes u.box) ++ (vecBytes u.hash ++ vecBytes (lateBy u.late)) else [0]
end Go.Proofs.YtgehfbcagaaggaaGreatDoor
end
