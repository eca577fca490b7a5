/-
  Texts of this claim in one file: Ref16a, Ref16b, Ref16c, Ref16d, Ref16e, Ref16i, Ref16k, Ref16l, Ref16m, Ref16g.
-/
import Derived.Test.YthooibljnfnnhaaPk3
import Derived.Test.YthooibljnfnnhaaPk5
import Derived.Test.YthooibljnfnnhaaPk6
import Derived.Test.YthooibljnfnnhaaPk27
import Derived.Great.Walk
import Derived.Deep.MidRow
import Derived.Test.YthooibljnfnnhaaPk8
import Derived.Test.YthooibljnfnnhaaPk2
import Derived.Test.YthooibljnfnnhaaPk24
import Derived.Deep.RegionHeld3
import Derived.Test.YthooibljnfnnhaaPk9
section
namespace Go.Proofs.Ythooibljnfnnhaa
open Go Go.RowKit
set_option linter.unusedVariables false
set_option linter.unusedSimpArgs false
/-- A leaf's, a node's contents; where their bytes lie. -/
structure Lf where
  box : List UInt8
  sign : List UInt8
  ident : List UInt8
  src : Nat
  par : List UInt8
  sig : List UInt8
structure LA where
  a0 : Option Addr
  a1 : Option Addr
  a2 : Option Addr
  a3 : Option Addr
  a4 : Option Addr
  c0 : Nat
  c1 : Nat
  c2 : Nat
  c3 : Nat
  c4 : Nat
structure Pnt where
  box : List UInt8
  hash : List UInt8
  late : List Int
structure PA where
  a0 : Option Addr
  a1 : Option Addr
  a2 : Option Addr
  c0 : Nat
  c1 : Nat
  c2 : Nat
abbrev LfT : TypeId := 27
abbrev PrT : TypeId := 36
abbrev NdT : TypeId := 38
abbrev lfV (x : Lf) (a : LA) : Array Value := #[.slice a.a0 x.box.length a.c0, .slice a.a1 x.sign.length a.c1, .slice a.a2 x.ident.length a.c2, .int .u8 (x.src : Int), .slice a.a3 x.par.length a.c3, .slice a.a4 x.sig.length a.c4]
abbrev prV (x : Pnt) (a : PA) : Array Value := #[.slice a.a0 x.box.length a.c0, .slice a.a1 x.hash.length a.c1, .slice a.a2 x.late.length a.c2]
abbrev ndV (k : Nat) (x : Lf) (a : LA) (y : Pnt) (b : PA) : Array Value := #[.int .u8 (k : Int), .slice a.a0 x.box.length a.c0, .slice a.a1 x.sign.length a.c1, .slice a.a2 x.ident.length a.c2, .int .u8 (x.src : Int), .slice a.a3 x.par.length a.c3, .slice a.a4 x.sig.length a.c4, .slice b.a0 y.box.length b.c0, .slice b.a1 y.hash.length b.c1, .slice b.a2 y.late.length b.c2]
/-- It lies in memory. -/
def LfIn (w : World) (x : Lf) (a : LA) : Prop := Lie w w.heap.size a.a0 (bvs x.box) ∧ Lie w w.heap.size a.a1 (bvs x.sign) ∧ Lie w w.heap.size a.a2 (bvs x.ident) ∧ Lie w w.heap.size a.a3 (bvs x.par) ∧ Lie w w.heap.size a.a4 (bvs x.sig)
def PrIn (w : World) (y : Pnt) (b : PA) : Prop := Lie w w.heap.size b.a0 (bvs y.box) ∧ Lie w w.heap.size b.a1 (bvs y.hash) ∧ Lie w w.heap.size b.a2 (izs y.late)
theorem lie_on {w w' : World} {A : Option Addr} {xs : List Value} (h : Lie w w.heap.size A xs) (hb : Below w.heap.size w w') : Lie w' w'.heap.size A xs := (h.below hb).more hb.size
theorem LfIn.on {w w' : World} {x : Lf} {a : LA} (h : LfIn w x a) (hb : Below w.heap.size w w') : LfIn w' x a := ⟨lie_on h.1 hb, lie_on h.2.1 hb, lie_on h.2.2.1 hb, lie_on h.2.2.2.1 hb, lie_on h.2.2.2.2 hb⟩
theorem PrIn.on {w w' : World} {x : Pnt} {a : PA} (h : PrIn w x a) (hb : Below w.heap.size w w') : PrIn w' x a := ⟨lie_on h.1 hb, lie_on h.2.1 hb, lie_on h.2.2 hb⟩
/-- No more than is looked at. -/
def LfLe (x : Lf) : Prop := x.box.length ≤ 140737488355328 ∧ x.sign.length ≤ 140737488355328 ∧ x.ident.length ≤ 140737488355328 ∧ x.par.length ≤ 140737488355328 ∧ x.sig.length ≤ 140737488355328 ∧ x.src < 256
def PrLe (y : Pnt) : Prop := y.box.length ≤ 140737488355328 ∧ y.hash.length ≤ 140737488355328 ∧ y.late.length ≤ 140737488355328
theorem infoLf {x : Lf} {a : LA} : (Try.prog.info? LfT).map (·.size) = some (lfV x a).size := by kernel_rfl
theorem infoPr {y : Pnt} {b : PA} : (Try.prog.info? PrT).map (·.size) = some (prV y b).size := by kernel_rfl
theorem infoNd16 {k : Nat} {x : Lf} {a : LA} {y : Pnt} {b : PA} : (Try.prog.info? NdT).map (·.size) = some (ndV k x a y b).size := by kernel_rfl
def leafN (b s i r p g : Nat) : Bool := decide (b = 32) && decide (s = 32) && decide (0 < i) && decide (i ≤ 64) && decide (0 < r) && decide (r < 4) && (decide (p = 0) || (decide (r = 3) && decide (p = 32))) && decide (g = 64)
def leafB (x : Lf) : Bool := leafN x.box.length x.sign.length x.ident.length x.src x.par.length x.sig.length
set_option maxHeartbeats 2000000 in
theorem RightLeaf16_gen (A0 A1 A2 A3 A4 : Option Addr) (b s i r p g k0 k1 k2 k3 k4 : Nat) (w : World) (hr : r < 256) :
    Calls Try.prog 20 #[.agg #[.slice A0 b k0, .slice A1 s k1, .slice A2 i k2, .int .u8 (r : Int), .slice A3 p k3, .slice A4 g k4]] w (RetB w (leafN b s i r p g)) := by
  have H1 := hid (heap_alloc_new w (.cells #[.slice A0 b k0, .slice A1 s k1, .slice A2 i k2, .int .u8 (r : Int), .slice A3 p k3, .slice A4 g k4] LfT))
  have c0 := cell_of H1.out 0 _ rfl; have c1 := cell_of H1.out 1 _ rfl; have c2 := cell_of H1.out 2 _ rfl; have c3 := cell_of H1.out 3 _ rfl; have c4 := cell_of H1.out 4 _ rfl; have c5 := cell_of H1.out 5 _ rfl
  go_enter Try.func20, Try.ntmps20
  go_wp2
  all_goals (go_ret; refine ⟨congrArg (fun b => Ending.returned (.bool b)) ?_, (Below.refl _ _).alloc (Nat.le_refl _) _⟩; clear c0 c1 c2 c3 c4 c5 H1; show (_ : Bool) = _; rw [Bool.eq_iff_iff]; simp [leafN]; try omega)
theorem RightLeaf16_any (x : Lf) (a : LA) (w : World) (hr : x.src < 256) : Calls Try.prog 20 #[.agg (lfV x a)] w (RetB w (leafB x)) := RightLeaf16_gen _ _ _ _ _ _ _ _ _ _ _ _ _ _ _ _ w hr
def sameLf (x y : Lf) : Bool := x.box == y.box && x.sign == y.sign && x.ident == y.ident && x.src == y.src && x.par == y.par && x.sig == y.sig
end Go.Proofs.Ythooibljnfnnhaa
end
section
namespace Go.Proofs.Ythooibljnfnnhaa
open Go Go.RowKit
set_option linter.unusedVariables false
set_option linter.unusedSimpArgs false
theorem load_leaf {W : World} {g k : Nat} {x : Lf} {a : LA} {y : Pnt} {b : PA} (K : W.heap[g]? = some (.cells (ndV k x a y b) NdT (0, 0))) : (Instr.loadAt LfT (.pointer (some ⟨g, 1, none⟩))).run Try.prog W = .ok (.agg (lfV x a)) W :=
  run_loadAt_mid W g 1 LfT (lfV x a).toList _ (fun j v hv => by
    have hj := (List.getElem?_eq_some_iff.1 hv).1
    have h := cell_of K (1 + j) v
    apply h
    rcases j with _ | _ | _ | _ | _ | _ | j
    iterate 6 exact hv
    simp at hj; omega) Try.underlying27 rfl infoLf
theorem load_par {W : World} {g k : Nat} {x : Lf} {a : LA} {y : Pnt} {b : PA} (K : W.heap[g]? = some (.cells (ndV k x a y b) NdT (0, 0))) : (Instr.loadAt PrT (.pointer (some ⟨g, 7, none⟩))).run Try.prog W = .ok (.agg (prV y b)) W :=
  run_loadAt_mid W g 7 PrT (prV y b).toList _ (fun j v hv => by
    have hj := (List.getElem?_eq_some_iff.1 hv).1
    have h := cell_of K (7 + j) v
    apply h
    rcases j with _ | _ | _ | j
    iterate 3 exact hv
    simp at hj; omega) Try.underlying36 rfl infoPr
/-- Two nodes, field by field. -/
def sameNd (k : Nat) (x : Lf) (u : Pnt) (k2 : Nat) (y : Lf) (v : Pnt) : Bool := k == k2 && sameLf x y && u.box == v.box && u.hash == v.hash && u.late == v.late
end Go.Proofs.Ythooibljnfnnhaa
end
section
namespace Go.Proofs.Ythooibljnfnnhaa
open Go Go.RowKit
set_option linter.unusedVariables false
set_option linter.unusedSimpArgs false
/-- Numbers from 0 to 65535 that rise. -/
def badL (l : List Int) (i : Nat) : Bool := decide (l.getD i 0 < 0) || decide (65535 < l.getD i 0) || (decide (0 < i) && decide (l.getD i 0 ≤ l.getD (i - 1) 0))
def riseB (l : List Int) : Bool := (List.range l.length).all fun i => !badL l i
def parB (y : Pnt) : Bool := riseB y.late && (decide (y.box.length = 32) && (decide (y.hash.length = 0) || decide (y.hash.length = 32)))
theorem rise_yes {l : List Int} (h : ∀ i, i < l.length → badL l i = false) : riseB l = true := by
  unfold riseB
  rw [List.all_eq_true]
  intro i hi
  rw [h i (List.mem_range.1 hi)]; rfl
theorem rise_no {l : List Int} {i : Nat} (hi : i < l.length) (h : badL l i = true) : riseB l = false := by
  unfold riseB
  rw [Bool.eq_false_iff]
  intro hc
  have h2 := List.all_eq_true.1 hc i (List.mem_range.2 hi)
  rw [h] at h2; cases h2
theorem wrap64_in' {x : Int} (h1 : -1000000000000000000 ≤ x) (h2 : x ≤ 1000000000000000000) : wrap64 x = x := by unfold wrap64; omega
theorem getD_of {l : List Int} {i : Nat} (h : i < l.length) : l.getD i 0 = l[i] := by rw [List.getD_eq_getElem?_getD, List.getElem?_eq_getElem h]; rfl
end Go.Proofs.Ythooibljnfnnhaa
end
section
namespace Go.Proofs.Ythooibljnfnnhaa
open Go Go.RowKit
set_option linter.unusedVariables false
set_option linter.unusedSimpArgs false
abbrev lf0 : Lf := ⟨[], [], [], 0, [], []⟩
abbrev la0 : LA := ⟨none, none, none, none, none, 0, 0, 0, 0, 0⟩
abbrev pr0 : Pnt := ⟨[], [], []⟩
abbrev pa0 : PA := ⟨none, none, none, 0, 0, 0⟩
theorem lf0_in (w : World) : LfIn w lf0 la0 := ⟨Lie.nil, Lie.nil, Lie.nil, Lie.nil, Lie.nil⟩
theorem pr0_in (w : World) : PrIn w pr0 pa0 := ⟨Lie.nil, Lie.nil, Lie.nil⟩
def emptyLf (x : Lf) : Bool := sameNd 0 x pr0 0 lf0 pr0
def emptyPr (u : Pnt) : Bool := sameNd 0 lf0 u 0 lf0 pr0
def rightB (k : Nat) (x : Lf) (u : Pnt) : Bool := if k = 0 then emptyLf x && emptyPr u else if k = 1 then leafB x && emptyPr u else if k = 2 then parB u && emptyLf x else false
theorem build_nd (W : World) : (Instr.build NdT #[]).run Try.prog W = .ok (.agg (ndV 0 lf0 la0 pr0 pa0)) W := run_build W NdT _ _ (by kernel_rfl)
end Go.Proofs.Ythooibljnfnnhaa
end
section
namespace Go.Proofs.Ythooibljnfnnhaa
open Go Go.RowKit
set_option linter.unusedVariables false
set_option linter.unusedSimpArgs false
/-- Bytes that lie somewhere. -/
def RetQ (W : World) (xs : List UInt8) (e : Ending) (w' : World) : Prop := ∃ A c, e = .returned (.slice A xs.length c) ∧ Sq w' w'.heap.size A c (bvs xs) ∧ Below W.heap.size W w'
theorem lie_to {w w' : World} {A : Option Addr} {xs : List Value} (h : Lie w w.heap.size A xs) (hb : Below w.heap.size w w') : Lie w' w'.heap.size A xs := (h.below hb).more hb.size
/-- A leaf's bytes but for the signature. -/
def aheadB (x : Lf) : List UInt8 := (vecBytes x.box ++ vecBytes x.sign) ++ (vecBytes x.ident ++ [UInt8.ofNat x.src]) ++ (if x.src = 3 then vecBytes x.par else [])
def Lf200 (x : Lf) : Prop := x.box.length ≤ 200 ∧ x.sign.length ≤ 200 ∧ x.ident.length ≤ 200 ∧ x.par.length ≤ 200 ∧ x.sig.length ≤ 200 ∧ x.src < 256
theorem vec_le {xs : List UInt8} (h : xs.length ≤ 100000) : (vecBytes xs).length ≤ 100004 := by
  have h1 := lenBytes_length xs.length
  have h2 := lenSize_le xs.length
  simp only [vecBytes, List.length_append]
  omega
section
variable {P : Program} {ops : Array Oper} {Q : Exit → Act → World → Prop} {md : Region.Mode} {n : Nat} {a : Act} {w0 : World}
theorem wpGrA_q {g f : Nat} {l : List Oper} {i : Nat} {oi : Oper} {listed : Array Bool} {fn : FuncId} {args : Array Value} (xs : List UInt8) (hi : ops[i]? = some oi) (hrd : (Region.ready md ops listed == [i] && decide (i < n)) = true)
    (hw : Region.wanted oi (yielded ops a.tmps) = true) (hr : ∀ w', (execOp a.eval oi).run P w' = .ok (.enter fn args) w') (hc : ∀ w', Below w0.heap.size w0 w' → Calls P fn args w' (RetQ w' xs))
    (h : ∀ A c w2, Below w0.heap.size w0 w2 → Sq w2 w2.heap.size A c (bvs xs) → wpGrA P md ops Q n (GrL P md ops Q g n l) w2 f (listed.setIfInBounds i true) (a.put oi.dst (.slice A xs.length c))) : wpGrA P md ops Q n (GrL P md ops Q g n l) w0 (f + 1) listed a :=
  wpGrA_call (fun w' v w'' => ∃ A c, v = .slice A xs.length c ∧ Sq w'' w''.heap.size A c (bvs xs)) hi hrd hw hr (fun w' hb => (hc w' hb).mono fun e w'' ⟨A, c, he, hs, hb2⟩ => ⟨_, he, hb2, A, c, rfl, hs⟩)
    fun w' v w'' hb hb2 ⟨A, c, hv, hs⟩ => by
      subst hv
      exact h A c w'' (hb.trans (hb2.mono hb.size)) hs
end
end Go.Proofs.Ythooibljnfnnhaa
end
section
namespace Go.Proofs.Ythooibljnfnnhaa
open Go Go.RowKit
set_option linter.unusedVariables false
set_option linter.unusedSimpArgs false
/-- A vector at a place: where the next one stands. -/
def vecN (xs : List UInt8) (i : Nat) : Nat := if (vecAt (xs.drop i)).2.2 = 0 then i + (lenAt (xs.drop i)).2.1 + (lenAt (xs.drop i)).1 else i
end Go.Proofs.Ythooibljnfnnhaa
end
section
namespace Go.Proofs.Ythooibljnfnnhaa
open Go Go.RowKit
set_option linter.unusedVariables false
set_option linter.unusedSimpArgs false
/-- Where the j-th vector stands; its bytes; the first error of some. -/
def posD (xs : List UInt8) (i : Nat) : Nat → Nat
  | 0 => i
  | j + 1 => vecN xs (posD xs i j)
def vecJ (xs : List UInt8) (i j : Nat) : List UInt8 := (vecAt (xs.drop (posD xs i j))).1
def errJ (xs : List UInt8) (i j : Nat) : Nat := (vecAt (xs.drop (posD xs i j))).2.2
def errD (xs : List UInt8) (i : Nat) : Nat → Nat
  | 0 => 0
  | j + 1 => if errD xs i j = 0 then errJ xs i j else errD xs i j
/-- Slices that read as lists of bytes, in memory below B. -/
def RowsAt (w : World) (B : Nat) (vs : List Value) (ls : List (List UInt8)) : Prop := vs.length = ls.length ∧ ∀ (j : Nat) (x : List UInt8), ls[j]? = some x → ∃ A c, vs[j]? = some (Value.slice A x.length c) ∧ Sq w B A c (bvs x)
theorem RowsAt.on {w w' : World} {B : Nat} {vs : List Value} {ls : List (List UInt8)} (h : RowsAt w B vs ls) (hb : Below B w w') : RowsAt w' B vs ls := ⟨h.1, fun j x hx => by obtain ⟨A, c, h1, h2⟩ := h.2 j x hx; exact ⟨A, c, h1, h2.below hb⟩⟩
end Go.Proofs.Ythooibljnfnnhaa
end
section
namespace Go.Proofs.Ythooibljnfnnhaa
open Go Go.RowKit
set_option linter.unusedVariables false
set_option linter.unusedSimpArgs false
abbrev lfZ : Array Value := #[.slice none 0 0, .slice none 0 0, .slice none 0 0, .int .u8 0, .slice none 0 0, .slice none 0 0]
theorem lfZ_size {x : Lf} {a : LA} : lfZ.size = (lfV x a).size := rfl
theorem lfV_one {x : Lf} {a : LA} : (lfV x a).all (·.oneCell') = true := by simp [Value.oneCell']
def srcJ (xs : List UInt8) (i : Nat) : Nat := (xs.getD i 0).toNat
def tlP (xs : List UInt8) (i : Nat) : Nat := posD xs i 3
def tlR (xs : List UInt8) (i : Nat) : Nat := if srcJ xs (tlP xs i) = 3 then posD xs (tlP xs i + 1) 1 else tlP xs i + 1
def tlF (xs : List UInt8) (i : Nat) : Lf := ⟨vecJ xs i 0, vecJ xs i 1, vecJ xs i 2, srcJ xs (tlP xs i), if srcJ xs (tlP xs i) = 3 then vecJ xs (tlP xs i + 1) 0 else [], vecJ xs (tlR xs i) 0⟩
def tlE (xs : List UInt8) (i : Nat) : Nat :=
  if errD xs i 3 ≠ 0 then errD xs i 3
  else if xs.length ≤ tlP xs i then 4
  else if srcJ xs (tlP xs i) = 0 ∨ 3 < srcJ xs (tlP xs i) then 3
  else if srcJ xs (tlP xs i) = 3 ∧ errD xs (tlP xs i + 1) 1 ≠ 0 then errD xs (tlP xs i + 1) 1
  else if errD xs (tlR xs i) 1 ≠ 0 then errD xs (tlR xs i) 1
  else if leafB (tlF xs i) then 0 else 3
def tlX (xs : List UInt8) (i : Nat) : Lf := if tlE xs i = 0 then tlF xs i else lf0
def tlN (xs : List UInt8) (i : Nat) : Nat := if tlE xs i = 0 then posD xs (tlR xs i) 1 else i
theorem build_lf (W : World) : (Instr.build LfT #[]).run Try.prog W = .ok (.agg (lfV lf0 la0)) W := run_build W LfT _ _ (by kernel_rfl)
/-- A leaf that lies below B. -/
def LfB (w : World) (B : Nat) (x : Lf) (a : LA) : Prop := Lie w B a.a0 (bvs x.box) ∧ Lie w B a.a1 (bvs x.sign) ∧ Lie w B a.a2 (bvs x.ident) ∧ Lie w B a.a3 (bvs x.par) ∧ Lie w B a.a4 (bvs x.sig)
def PrB (w : World) (B : Nat) (y : Pnt) (b : PA) : Prop := Lie w B b.a0 (bvs y.box) ∧ Lie w B b.a1 (bvs y.hash) ∧ Lie w B b.a2 (izs y.late)
theorem LfB.on {w w' : World} {B : Nat} {x : Lf} {a : LA} (h : LfB w B x a) (hb : Below B w w') : LfB w' B x a := ⟨h.1.below hb, h.2.1.below hb, h.2.2.1.below hb, h.2.2.2.1.below hb, h.2.2.2.2.below hb⟩
theorem LfB.in_ {w : World} {B : Nat} {x : Lf} {a : LA} (h : LfB w B x a) (hb : B ≤ w.heap.size) : LfIn w x a := ⟨h.1.more hb, h.2.1.more hb, h.2.2.1.more hb, h.2.2.2.1.more hb, h.2.2.2.2.more hb⟩
theorem PrB.on {w w' : World} {B : Nat} {y : Pnt} {b : PA} (h : PrB w B y b) (hb : Below B w w') : PrB w' B y b := ⟨h.1.below hb, h.2.1.below hb, h.2.2.below hb⟩
theorem PrB.in_ {w : World} {B : Nat} {y : Pnt} {b : PA} (h : PrB w B y b) (hb : B ≤ w.heap.size) : PrIn w y b := ⟨h.1.more hb, h.2.1.more hb, h.2.2.more hb⟩
end Go.Proofs.Ythooibljnfnnhaa
end
section
namespace Go.Proofs.Ythooibljnfnnhaa
open Go Go.RowKit
set_option linter.unusedVariables false
set_option linter.unusedSimpArgs false
abbrev ndZ : Array Value := #[.int .u8 0, .slice none 0 0, .slice none 0 0, .slice none 0 0, .int .u8 0, .slice none 0 0, .slice none 0 0, .slice none 0 0, .slice none 0 0, .slice none 0 0]
theorem ndZ_size {k : Nat} {x : Lf} {a : LA} {y : Pnt} {b : PA} : ndZ.size = (ndV k x a y b).size := rfl
theorem ndV_one {k : Nat} {x : Lf} {a : LA} {y : Pnt} {b : PA} : (ndV k x a y b).all (·.oneCell') = true := by simp [Value.oneCell']
/-- Numbers of four bytes each. -/
def lateAt (v : List UInt8) (j : Nat) : Int := ((((v.getD (4 * j) 0).toNat * 256 + (v.getD (4 * j + 1) 0).toNat) * 256 + (v.getD (4 * j + 2) 0).toNat) * 256 + (v.getD (4 * j + 3) 0).toNat : Nat)
def lateOf (v : List UInt8) (n : Nat) : List Int := (List.range n).map (lateAt v)
def tkU (xs : List UInt8) (i : Nat) : Pnt := ⟨vecJ xs (i + 1) 0, vecJ xs (i + 1) 1, lateOf (vecJ xs (i + 1) 2) ((vecJ xs (i + 1) 2).length / 4)⟩
def tkE (xs : List UInt8) (i : Nat) : Nat :=
  if xs.length ≤ i then 4
  else if srcJ xs i = 0 then 0
  else if srcJ xs i = 1 then tlE xs (i + 1)
  else if srcJ xs i ≠ 2 then 3
  else if errD xs (i + 1) 3 ≠ 0 then errD xs (i + 1) 3
  else if (vecJ xs (i + 1) 2).length % 4 = 0 ∧ parB (tkU xs i) = true then 0 else 3
def tkN (xs : List UInt8) (i : Nat) : Nat := if tkE xs i = 0 then (if srcJ xs i = 0 then i + 1 else if srcJ xs i = 1 then tlN xs (i + 1) else posD xs (i + 1) 3) else i
def tkK (xs : List UInt8) (i : Nat) : Nat := if tkE xs i = 0 then srcJ xs i else 0
def tkL (xs : List UInt8) (i : Nat) : Lf := if tkE xs i = 0 ∧ srcJ xs i = 1 then tlX xs (i + 1) else lf0
def tkP (xs : List UInt8) (i : Nat) : Pnt := if tkE xs i = 0 ∧ srcJ xs i = 2 then tkU xs i else pr0
/-- A parent that lies: its bytes below B, its numbers in memory that is new. -/
def PrF (w' : World) (B base : Nat) (y : Pnt) (b : PA) : Prop := Lie w' B b.a0 (bvs y.box) ∧ Lie w' B b.a1 (bvs y.hash) ∧ Lie w' w'.heap.size b.a2 (izs y.late) ∧ (izs y.late ≠ [] → ∃ g o, b.a2 = some ⟨g, o, none⟩ ∧ base ≤ g)
theorem PrF.in_ {w' : World} {B base : Nat} {y : Pnt} {b : PA} (h : PrF w' B base y b) (hB : B ≤ w'.heap.size) : PrIn w' y b := ⟨h.1.more hB, h.2.1.more hB, h.2.2.1⟩
theorem pr0_f (w' : World) (B base : Nat) : PrF w' B base pr0 pa0 := ⟨Lie.nil, Lie.nil, Lie.nil, fun h => absurd rfl h⟩
theorem lf0_b (w' : World) (B : Nat) : LfB w' B lf0 la0 := ⟨Lie.nil, Lie.nil, Lie.nil, Lie.nil, Lie.nil⟩
def TkOut (w : World) (B : Nat) (xs : List UInt8) (i : Nat) (e : Ending) (w' : World) : Prop := ∃ a b, e = .returned (.tuple #[.agg (ndV (tkK xs i) (tkL xs i) a (tkP xs i) b), .int .i64 (tkN xs i : Int), .int .i64 (tkE xs i : Int)]) ∧ LfB w' B (tkL xs i) a ∧ PrF w' B w.heap.size (tkP xs i) b ∧ Below w.heap.size w w'
theorem TkOut.nil {w w' : World} {B : Nat} {xs : List UInt8} {i : Nat} (hl : i < xs.length) (h : srcJ xs i = 0) (hb : Below w.heap.size w w') : TkOut w B xs i (.returned (.tuple #[.agg (ndV 0 lf0 la0 pr0 pa0), .int .i64 ((i + 1 : Nat) : Int), .int .i64 ((0 : Nat) : Int)])) w' := by
  have hE : tkE xs i = 0 := by unfold tkE; rw [if_neg (by omega), if_pos h]
  have h2 : tkL xs i = lf0 := by unfold tkL; rw [if_neg (by omega)]
  have h4 : tkP xs i = pr0 := by unfold tkP; rw [if_neg (by omega)]
  have h5 : tkK xs i = 0 := by unfold tkK; rw [if_pos hE, h]
  have h3 : tkN xs i = i + 1 := by unfold tkN; rw [if_pos hE, if_pos h]
  exact ⟨la0, pa0, by rw [h2, h3, h4, h5, hE], by rw [h2]; exact lf0_b _ _, by rw [h4]; exact pr0_f _ _ _, hb⟩
theorem TkOut.par {w w' : World} {B : Nat} {xs : List UInt8} {i : Nat} {b : PA} (hl : i < xs.length) (h : srcJ xs i = 2) (h3 : errD xs (i + 1) 3 = 0) (hm : (vecJ xs (i + 1) 2).length % 4 = 0) (hp : parB (tkU xs i) = true) (hi : PrF w' B w.heap.size (tkU xs i) b) (hb : Below w.heap.size w w') : TkOut w B xs i (.returned (.tuple #[.agg (ndV 2 lf0 la0 (tkU xs i) b), .int .i64 (posD xs (i + 1) 3 : Int), .int .i64 ((0 : Nat) : Int)])) w' := by
  have hE : tkE xs i = 0 := by unfold tkE; rw [if_neg (by omega), if_neg (by omega), if_neg (by omega), if_neg (by omega), if_neg (by simp [h3]), if_pos ⟨hm, hp⟩]
  have h2 : tkL xs i = lf0 := by unfold tkL; rw [if_neg (by omega)]
  have h4 : tkP xs i = tkU xs i := by unfold tkP; rw [if_pos ⟨hE, h⟩]
  have h5 : tkK xs i = 2 := by unfold tkK; rw [if_pos hE, h]
  have h6 : tkN xs i = posD xs (i + 1) 3 := by unfold tkN; rw [if_pos hE, if_neg (by omega), if_neg (by omega)]
  exact ⟨la0, b, by rw [h2, h6, h4, h5, hE], by rw [h2]; exact lf0_b _ _, by rw [h4]; exact hi, hb⟩
end Go.Proofs.Ythooibljnfnnhaa
end
section
namespace Go.Proofs.Ythooibljnfnnhaa
open Go Go.RowKit
set_option linter.unusedVariables false
set_option linter.unusedSimpArgs false
/-- A leaf's bytes. -/
def leafBy (x : Lf) : List UInt8 := aheadB x ++ vecBytes x.sig
/-- Numbers of four bytes. -/
def lateBy (l : List Int) : List UInt8 := l.flatMap fun v => beBytes 4 v.toNat
theorem lateBy_length (l : List Int) : (lateBy l).length = 4 * l.length := by
  induction l with
  | nil => rfl
  | cons v l ih => rw [lateBy, List.flatMap_cons, List.length_append]; rw [lateBy] at ih; rw [ih, beBytes_length, List.length_cons]; omega
def nodeBy (k : Nat) (x : Lf) (u : Pnt) : List UInt8 := if k = 1 then [1] ++ leafBy x else if k = 2 then ([2] ++ vecBytes u.box) ++ (vecBytes u.hash ++ vecBytes (lateBy u.late)) else [0]
end Go.Proofs.Ythooibljnfnnhaa
end
