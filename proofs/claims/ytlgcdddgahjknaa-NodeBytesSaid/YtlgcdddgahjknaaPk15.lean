/-
  Texts of this claim in one file: Law16a, Law16b, Law16c, Law16d.
-/
import Derived.Test.YtlgcdddgahjknaaPk13
import Derived.Test.YtlgcdddgahjknaaPk14
import Derived.Test.YtlgcdddgahjknaaPk9
section
namespace Go.Proofs.Ytlgcdddgahjknaa
open Go Go.RowKit
set_option linter.unusedVariables false
set_option linter.unusedSimpArgs false
/-- Bytes and an error; a node and an error; a leaf and an error. -/
def BysE (W : World) (xs : List UInt8) (er : Nat) (e : Ending) (w' : World) : Prop := ∃ A c, e = .returned (.tuple #[.slice A xs.length c, .int .u8 (er : Int)]) ∧ Sq w' w'.heap.size A c (bvs xs) ∧ Below W.heap.size W w'
def NodeE (W : World) (k : Nat) (x : Lf) (u : Pnt) (er : Nat) (e : Ending) (w' : World) : Prop := ∃ a p, e = .returned (.tuple #[.agg (ndV k x a u p), .int .u8 (er : Int)]) ∧ LfIn w' x a ∧ PrIn w' u p ∧ Below W.heap.size W w'
/-- What the document says: bytes of a leaf, of a node; the node of bytes. -/
def lbX (x : Lf) : List UInt8 := if leafB x = true then leafBy x else []
def lbE (x : Lf) : Nat := if leafB x = true then 0 else 3
def nbX (k : Nat) (x : Lf) (u : Pnt) : List UInt8 := if rightB k x u = true then nodeBy k x u else []
def nbE (k : Nat) (x : Lf) (u : Pnt) : Nat := if rightB k x u = true then 0 else 3
def ofE (xs : List UInt8) : Nat := if tkE xs 0 ≠ 0 then tkE xs 0 else if tkN xs 0 < xs.length then 5 else 0
def ofK (xs : List UInt8) : Nat := if ofE xs = 0 then tkK xs 0 else 0
def ofL (xs : List UInt8) : Lf := if ofE xs = 0 then tkL xs 0 else lf0
def ofP (xs : List UInt8) : Pnt := if ofE xs = 0 then tkP xs 0 else pr0
def Late64 (u : Pnt) : Prop := ∀ v ∈ u.late, -9223372036854775808 ≤ v ∧ v ≤ 9223372036854775807
/-- Lengths that a walk can bear. -/
def LfM (x : Lf) : Prop := x.box.length ≤ 1000000 ∧ x.sign.length ≤ 1000000 ∧ x.ident.length ≤ 1000000 ∧ x.par.length ≤ 1000000 ∧ x.sig.length ≤ 1000000 ∧ x.src < 256
def PrM (u : Pnt) : Prop := u.box.length ≤ 1000000 ∧ u.hash.length ≤ 1000000 ∧ u.late.length ≤ 1000000
def Ok16 (W : World) (k : Nat) (x : Lf) (a : LA) (u : Pnt) (p : PA) : Prop := LfIn W x a ∧ PrIn W u p ∧ LfM x ∧ PrM u ∧ k < 256 ∧ Late64 u
theorem Ok16.on {W W' : World} {k : Nat} {x : Lf} {a : LA} {u : Pnt} {p : PA} (h : Ok16 W k x a u p) (hb : Below W.heap.size W W') : Ok16 W' k x a u p := ⟨h.1.on hb, h.2.1.on hb, h.2.2⟩
def NdBytes : Prop := ∀ k x a u p (W : World), Ok16 W k x a u p → Calls Try.prog 10 #[.agg (ndV k x a u p)] W (BysE W (nbX k x u) (nbE k x u))
def NdLeafBytes : Prop := ∀ x a (W : World), LfIn W x a → Lf200 x → Calls Try.prog 11 #[.agg (lfV x a)] W (BysE W (lbX x) (lbE x))
def NdOf : Prop := ∀ A xs c (W : World), Sq W W.heap.size A c (bvs xs) → xs.length ≤ 1000000 → Calls Try.prog 18 #[.slice A xs.length c] W (NodeE W (ofK xs) (ofL xs) (ofP xs) (ofE xs))
def NdTakeLeaf : Prop := ∀ g xs (W : World), Rd W g xs 0 → xs.length ≤ 1000000 → Calls Try.prog 22 #[.pointer (some ⟨g, 0, none⟩)] W fun e w' => ∃ a, e = .returned (.tuple #[.agg (lfV (tlX xs 0) a), .int .u8 (tlE xs 0 : Int)]) ∧ LfIn w' (tlX xs 0) a ∧ (tlE xs 0 = 0 → Rd w' g (xs.drop (tlN xs 0)) 0) ∧ W.grownBy w' (some g)
def NdTake : Prop := ∀ g xs (W : World), Rd W g xs 0 → xs.length ≤ 1000000 → Calls Try.prog 25 #[.pointer (some ⟨g, 0, none⟩)] W fun e w' => ∃ a p, e = .returned (.tuple #[.agg (ndV (tkK xs 0) (tkL xs 0) a (tkP xs 0) p), .int .u8 (tkE xs 0 : Int)]) ∧ LfIn w' (tkL xs 0) a ∧ PrIn w' (tkP xs 0) p ∧ (tkE xs 0 = 0 → Rd w' g (xs.drop (tkN xs 0)) 0) ∧ W.grownBy w' (some g)
def NdTakeNil : Prop := ∀ W : World, Calls Try.prog 25 #[.pointer none] W (NodeE W 0 lf0 pr0 2)
def NdSame : Prop := ∀ k x a u p k2 y b v q (W : World), LfIn W x a → PrIn W u p → LfIn W y b → PrIn W v q → LfLe x → PrLe u → k < 256 → k2 < 256 → y.src < 256 → Calls Try.prog 26 #[.agg (ndV k x a u p), .agg (ndV k2 y b v q)] W (RetB W (sameNd k x u k2 y v))
/-- A copy in memory of its own. -/
def LfOwn (W w' : World) (x : Lf) (a : LA) : Prop := OwnB w' W.heap.size (.slice a.a0 x.box.length a.c0) x.box ∧ OwnB w' W.heap.size (.slice a.a1 x.sign.length a.c1) x.sign ∧ OwnB w' W.heap.size (.slice a.a2 x.ident.length a.c2) x.ident ∧ OwnB w' W.heap.size (.slice a.a3 x.par.length a.c3) x.par ∧ OwnB w' W.heap.size (.slice a.a4 x.sig.length a.c4) x.sig
def NdCopy : Prop := ∀ k x a u p (W : World), Ok16 W k x a u p → Calls Try.prog 27 #[.agg (ndV k x a u p)] W fun e w' => ∃ b q, e = .returned (.agg (ndV k x b u q)) ∧ LfOwn W w' x b ∧ OwnB w' W.heap.size (.slice q.a0 u.box.length q.c0) u.box ∧ OwnB w' W.heap.size (.slice q.a1 u.hash.length q.c1) u.hash ∧ w'.ownsRow W.heap.size 3 1 (.slice q.a2 u.late.length q.c2) u.late.length (izs u.late) ∧ Below W.heap.size W w'
theorem ok16_none (W : World) : Ok16 W 0 lf0 la0 pr0 pa0 := ⟨lf0_in W, pr0_in W, by unfold LfM; decide, by unfold PrM; decide, by decide, fun v h => by cases h⟩
theorem ex_b : nbX 0 lf0 pr0 = [0] ∧ nbE 0 lf0 pr0 = 0 := by decide
theorem ex_o : ofK [3] = 0 ∧ ofL [3] = lf0 ∧ ofP [3] = pr0 ∧ ofE [3] = 3 := by
  have h : tkE [3] 0 = 3 := by
    unfold tkE; rw [if_neg (by decide), if_neg (by decide), if_neg (by decide), if_pos (by decide)]
  have hE : ofE [3] = 3 := by unfold ofE; rw [h]; rfl
  unfold ofK ofL ofP
  rw [hE]
  exact ⟨rfl, rfl, rfl, rfl⟩
def Alive16 : Prop := ∀ W : World, Calls Try.prog 8 #[] W (RetB W true)
set_option maxRecDepth 100000 in
set_option maxHeartbeats 1000000 in
theorem alive16_core (hB : ∀ W : World, Calls Try.prog 10 #[.agg (ndV 0 lf0 la0 pr0 pa0)] W (BysE W [0] 0)) (hO : ∀ A c (W : World), Sq W W.heap.size A c (bvs [3]) → Calls Try.prog 18 #[.slice A 1 c] W (NodeE W 0 lf0 pr0 3)) : Alive16 := fun w => by
  have HB := hid hB
  have HO := hid hO
  have hbuild := build_nd
  clear hB hO
  go_enter Try.func8, Try.ntmps8
  go_wp2_with fail
  refine (HB.out _).mono ?_
  rintro e w1 ⟨A1, c1, rfl, hs, hb⟩
  have HS1 := hid hs; have HB1 := hid hb
  clear hs hb HB
  have hl3 := (Lie.new1 w1 (.int .u8 3) 5)
  have HQ3 : Hid (Sq (w1.alloc (.cells #[.int .u8 3] 5)) (w1.alloc (.cells #[.int .u8 3] 5)).heap.size (some ⟨w1.heap.size, 0, none⟩) 1 (bvs [3])) := hid (Lie.sq (by have h := hl3; rw [show (w1.alloc (.cells #[.int .u8 3] 5)).heap.size = w1.heap.size + 1 by simp]; exact h) (by decide) (by decide))
  clear hl3
  obtain ⟨b1, o1, rfl, -, hby⟩ := sq_at HS1.out (by decide)
  have hB1 := hby 0 (by decide)
  have GB1 : Hid (b1 < w1.heap.size) := hid (by rcases Nat.lt_or_ge b1 w1.heap.size with h | h; exact h; exfalso; have hn : w1.heap[b1]? = none := Array.getElem?_eq_none h; unfold World.cell? at hB1; rw [show (⟨b1, o1 + 0, none⟩ : Addr).block = b1 from rfl, hn] at hB1; cases hB1)
  have HC1 := hid hB1
  clear hby hB1
  go_wp2_with fail
  refine (HO.out _ _ _ HQ3.out).mono ?_
  rintro e w2 ⟨a, p, rfl, -, -, hb⟩
  have HB2 := hid ((HB1.out.alloc HB1.out.size (.cells #[.int .u8 3] 5)).trans (hb.mono (by have := HB1.out.size; simp; omega)))
  have K2 := hid (heap_alloc_new w2 (.cells ndZ NdT))
  have hc : ((w2.alloc (.cells ndZ NdT)).setRow w2.heap.size (ndV 0 lf0 a pr0 p)).cell? ⟨b1, o1 + 0, none⟩ = some (.int .u8 0) := by
    have hlt : b1 < w2.heap.size := Nat.lt_of_lt_of_le (Nat.lt_of_lt_of_le GB1.out (by simp)) hb.size
    rw [put_far _ _ (show b1 ≠ w2.heap.size by omega)]
    refine (Below.cell ((Below.refl w2.heap.size w2).alloc (Nat.le_refl _) (.cells ndZ NdT)) (p := ⟨b1, o1 + 0, none⟩) hlt).trans ?_
    refine (hb.cell (p := ⟨b1, o1 + 0, none⟩) (by simp; exact Nat.lt_succ_of_lt GB1.out)).trans ?_
    exact (Below.cell ((Below.refl w1.heap.size w1).alloc (Nat.le_refl _) (.cells #[.int .u8 3] 5)) (p := ⟨b1, o1 + 0, none⟩) GB1.out).trans HC1.out
  rw [Nat.add_zero] at hc
  have HB3 := hid ((HB2.out.alloc HB2.out.size (.cells ndZ NdT)).trans (below_put (w2.alloc (.cells ndZ NdT)) w2.heap.size (ndV 0 lf0 a pr0 p) HB2.out.size))
  clear hb HB1 HB2 HS1 HQ3 HO
  go_wp2_with (with_reducible refine wpList_store_row rfl NdT (.tmp 3) _ rfl w2.heap.size (ndV 0 lf0 a pr0 p) rfl rfl NdT ndZ K2.out infoNd16 ndZ_size ndV_one ?_)
  go_ret
  exact ⟨rfl, HB3.out⟩
theorem alive16_any (hB : NdBytes) (hO : NdOf) : Alive16 := alive16_core (fun W => by
    have h := hB 0 lf0 la0 pr0 pa0 W (ok16_none W)
    rw [ex_b.1, ex_b.2] at h
    exact h) (fun A c W h => by
    have h2 := hO A [3] c W h (by decide)
    rw [ex_o.1, ex_o.2.1, ex_o.2.2.1, ex_o.2.2.2] at h2
    exact h2)
end Go.Proofs.Ytlgcdddgahjknaa
end
section
namespace Go.Proofs.Ytlgcdddgahjknaa
open Go Go.RowKit
set_option linter.unusedVariables false
set_option linter.unusedSimpArgs false
theorem small_le {x : Lf} {u : Pnt} (h : smallB x u = true) (hs : x.src < 256) : Lf200 x ∧ Pr200 u ∧ LfLe x ∧ PrLe u := by
  unfold smallB smallN at h
  simp only [Bool.and_eq_true, decide_eq_true_eq] at h
  obtain ⟨⟨⟨⟨⟨⟨⟨h0, h1⟩, h2⟩, h3⟩, h4⟩, h5⟩, h6⟩, h7⟩ := h
  exact ⟨⟨h0, h1, h2, h3, h4, hs⟩, ⟨h5, h6, by omega⟩, ⟨by omega, by omega, by omega, by omega, by omega, hs⟩, ⟨by omega, by omega, by omega⟩⟩
theorem lf200_m {x : Lf} (h : Lf200 x) : LfM x := ⟨by have := h.1; omega, by have := h.2.1; omega, by have := h.2.2.1; omega, by have := h.2.2.2.1; omega, by have := h.2.2.2.2.1; omega, h.2.2.2.2.2⟩
theorem pr200_m {u : Pnt} (h : Pr200 u) : PrM u := ⟨by have := h.1; omega, by have := h.2.1; omega, by have := h.2.2; omega⟩
theorem right_two {x : Lf} {u : Pnt} (h : rightB 2 x u = true) : riseB u.late = true := by
  unfold rightB at h
  rw [if_neg (by decide), if_neg (by decide), if_pos rfl] at h
  unfold parB at h
  simp only [Bool.and_eq_true] at h
  exact h.1.1
theorem sq_on16 {w w' : World} {A : Option Addr} {c : Nat} {xs : List UInt8} (h : Sq w w.heap.size A c (bvs xs)) (hb : Below w.heap.size w w') : Sq w' w'.heap.size A c (bvs xs) := (h.below hb).more hb.size
/-- What is the same, by what is said of both. -/
theorem node_le {k : Nat} {x : Lf} {u : Pnt} (h1 : Lf200 x) (h2 : Pr200 u) : (nodeBy k x u).length ≤ 1000000 := by
  have v0 := leaf_le h1
  have v1 := vec_le (xs := u.box) (by have := h2.1; omega); have v2 := vec_le (xs := u.hash) (by have := h2.2.1; omega)
  have v3 := vec_le (xs := lateBy u.late) (by rw [lateBy_length]; have := h2.2.2; omega)
  unfold nodeBy
  split
  · simp only [List.length_append, List.length_cons, List.length_nil]; omega
  · split
    · simp only [List.length_append, List.length_cons, List.length_nil]; omega
    · decide
/-- A node's cells, one by one. -/
theorem nd_cells {W : World} {g k : Nat} {x : Lf} {a : LA} {y : Pnt} {b : PA} (K : W.heap[g]? = some (.cells (ndV k x a y b) NdT (0, 0))) :
    W.cell? ⟨g, 0, none⟩ = some (.int .u8 (k : Int)) ∧ W.cell? ⟨g, 1, none⟩ = some (.slice a.a0 x.box.length a.c0) ∧ W.cell? ⟨g, 2, none⟩ = some (.slice a.a1 x.sign.length a.c1) ∧ W.cell? ⟨g, 3, none⟩ = some (.slice a.a2 x.ident.length a.c2) ∧ W.cell? ⟨g, 4, none⟩ = some (.int .u8 (x.src : Int)) ∧ W.cell? ⟨g, 5, none⟩ = some (.slice a.a3 x.par.length a.c3) ∧ W.cell? ⟨g, 6, none⟩ = some (.slice a.a4 x.sig.length a.c4)
    ∧ W.cell? ⟨g, 7, none⟩ = some (.slice b.a0 y.box.length b.c0) ∧ W.cell? ⟨g, 8, none⟩ = some (.slice b.a1 y.hash.length b.c1) ∧ W.cell? ⟨g, 9, none⟩ = some (.slice b.a2 y.late.length b.c2) :=
  ⟨cell_of K 0 _ rfl, cell_of K 1 _ rfl, cell_of K 2 _ rfl, cell_of K 3 _ rfl, cell_of K 4 _ rfl, cell_of K 5 _ rfl, cell_of K 6 _ rfl, cell_of K 7 _ rfl, cell_of K 8 _ rfl, cell_of K 9 _ rfl⟩
theorem rng_leaf {W : World} {g k : Nat} {x : Lf} {a : LA} {y : Pnt} {b : PA} (K : W.heap[g]? = some (.cells (ndV k x a y b) NdT (0, 0))) : W.rangeAt g 1 (lfV x a).toList := World.rangeAt_of_block K 1 6
set_option maxHeartbeats 2000000 in
theorem nodeBytes_any (hB : NdBytes) (hL : NdLeafBytes) (hA : Alive16) (k : Nat) (x : Lf) (a : LA) (u : Pnt) (p : PA) (w : World) (hx : LfIn w x a) (hu : PrIn w u p) (hs : x.src < 256) (hk : k < 256) (hl : Late64 u) :
    Calls Try.prog 3 #[.agg (ndV k x a u p)] w (RetB w true) := by
  have HA := hid hA
  have HSM := hid (fun W => Small16_any k x a u p W)
  obtain ⟨W0, hW0⟩ : ∃ W, W = w.alloc (.cells (ndV k x a u p) NdT) := ⟨_, rfl⟩
  have HB0 : Hid (Below w.heap.size w W0) := hid (by rw [hW0]; exact (Below.refl _ _).alloc (Nat.le_refl _) _)
  have K0 : Hid (W0.heap[w.heap.size]? = some (.cells (ndV k x a u p) NdT (0, 0))) := hid (by rw [hW0]; exact heap_alloc_new w _)
  have HX := hid (hx.on HB0.out); have HU := hid (hu.on HB0.out)
  have hld := fun W (h : Below W0.heap.size W0 W) => load_leaf ((h.block _ (block_lt K0.out)).trans K0.out)
  have HLD := hid hld
  have HRG : Hid (∀ W, Below W0.heap.size W0 W → W.rangeAt w.heap.size 1 (lfV x a).toList) := hid fun W h => rng_leaf ((h.block _ (block_lt K0.out)).trans K0.out)
  have HK0 := hid hW0
  clear hld hA hx hu hW0
  go_enter Try.func3, Try.ntmps3
  go_wp2_with fail
  rw [← HK0.out]
  refine (HA.out _).mono ?_
  rintro e w1 ⟨rfl, hb⟩
  have HB1 := hid hb
  have K1 := hid ((hb.block _ (block_lt K0.out)).trans K0.out)
  clear hb
  go_wp2_with (with_reducible refine wpList_load_row rfl NdT (.tmp 1) rfl w.heap.size rfl NdT (ndV k x a u p) (0, 0) _ K1.out Try.underlying29 rfl infoNd16 ?_)
  refine (HSM.out _).mono ?_
  rintro e w2 ⟨rfl, hb⟩
  have HB2 := hid (HB1.out.trans (hb.mono HB1.out.size))
  clear hb HB1 K1
  obtain ⟨sm, hsm⟩ : ∃ s, s = smallB x u := ⟨_, rfl⟩
  rw [← hsm]
  cases sm with
  | false =>
    clear hsm
    go_wp2
    go_ret
    exact ⟨rfl, HB0.out.trans (HB2.out.mono HB0.out.size)⟩
  | true =>
    obtain ⟨hl2, hp2, hlx, hpx⟩ := small_le hsm.symm hs
    have HNB : Hid (∀ W, Below W0.heap.size W0 W → Calls Try.prog 10 #[.agg (ndV k x a u p)] W (BysE W (nbX k x u) (nbE k x u))) := hid fun W h => hB k x a u p W ⟨HX.out.on h, HU.out.on h, lf200_m hl2, pr200_m hp2, hk, hl⟩
    have HLB : Hid (∀ W, Below W0.heap.size W0 W → Calls Try.prog 11 #[.agg (lfV x a)] W (BysE W (lbX x) (lbE x))) := hid fun W h => hL x a W (HX.out.on h) hl2
    have HRL := hid (fun W => RightLeaf16_any x a W hs)
    have HRT : Hid (∀ W, Below W0.heap.size W0 W → Calls Try.prog 15 #[.agg (ndV k x a u p)] W (RetB W (rightB k x u))) := hid fun W h => Right16_any k x a u p W (HX.out.on h) (HU.out.on h) hlx hpx
    have HDL : Hid (∀ W, Below W0.heap.size W0 W → Calls Try.prog 14 #[.agg (lfV x a)] W (RetQ W (leafBy x))) := hid fun W h => LeafBytes16_any x a W (HX.out.on h) hl2
    have HDB : Hid (rightB k x u = true → ∀ W, Below W0.heap.size W0 W → Calls Try.prog 16 #[.agg (ndV k x a u p)] W (RetQ W (nodeBy k x u))) := hid fun hr W h => Bytes16_any k x a u p W (HX.out.on h) (HU.out.on h) (fun _ => hl2) (fun h2 => ⟨hp2, right_two (h2 ▸ hr)⟩)
    have hle1 := leaf_le hl2
    have hle2 := node_le (k := k) hl2 hp2
    have e1 : leafB x = true → lbX x = leafBy x ∧ lbE x = 0 := fun h => by unfold lbX lbE; rw [if_pos h, if_pos h]; exact ⟨rfl, rfl⟩
    have e2 : ¬ leafB x = true → lbX x = [] ∧ lbE x = 3 := fun h => by unfold lbX lbE; rw [if_neg h, if_neg h]; exact ⟨rfl, rfl⟩
    have e3 : rightB k x u = true → nbX k x u = nodeBy k x u ∧ nbE k x u = 0 := fun h => by unfold nbX nbE; rw [if_pos h, if_pos h]; exact ⟨rfl, rfl⟩
    have e4 : ¬ rightB k x u = true → nbX k x u = [] ∧ nbE k x u = 3 := fun h => by unfold nbX nbE; rw [if_neg h, if_neg h]; exact ⟨rfl, rfl⟩
    obtain ⟨lb, hlb⟩ : ∃ s, s = leafB x := ⟨_, rfl⟩
    obtain ⟨rb, hrb⟩ : ∃ s, s = rightB k x u := ⟨_, rfl⟩
    obtain ⟨LX, hLX⟩ : ∃ s, s = lbX x := ⟨_, rfl⟩
    obtain ⟨LE, hLE⟩ : ∃ s, s = lbE x := ⟨_, rfl⟩
    obtain ⟨NX, hNX⟩ : ∃ s, s = nbX k x u := ⟨_, rfl⟩
    obtain ⟨NE, hNE⟩ : ∃ s, s = nbE k x u := ⟨_, rfl⟩
    obtain ⟨LD, hLD⟩ : ∃ s, s = leafBy x := ⟨_, rfl⟩
    obtain ⟨ND, hND⟩ : ∃ s, s = nodeBy k x u := ⟨_, rfl⟩
    rw [← hlb] at HRL e1 e2
    rw [← hrb] at HRT HDB e3 e4
    rw [← hLX, ← hLE] at HLB e1 e2
    rw [← hNX, ← hNE] at HNB e3 e4
    rw [← hLD] at HDL e1 hle1
    rw [← hND] at HDB e3 hle2
    have E1 := hid e1; have E2 := hid e2; have E3 := hid e3; have E4 := hid e4; have HL1 := hid hle1; have HL2 := hid hle2
    clear e1 e2 e3 e4 hle1 hle2 hlb hrb hLX hLE hNX hNE hLD hND hl2 hp2 hlx hpx hsm hs hk hl HX HU hB hL HSM HA
    have K2 := hid ((HB2.out.block _ (block_lt K0.out)).trans K0.out)
    go_wp2_with (with_reducible refine wpList_load_row rfl NdT (.tmp 1) rfl w.heap.size rfl NdT (ndV k x a u p) (0, 0) _ K2.out Try.underlying29 rfl infoNd16 ?_)
    refine (HNB.out _ HB2.out).mono ?_
    rintro e w3 ⟨A1, c1, rfl, hq, hb⟩
    have HB3 := hid (HB2.out.trans (hb.mono HB2.out.size))
    have HQ1 := hid hq
    clear hq hb K2 HB2 HNB
    have R3 := HRG.out _ HB3.out
    go_wp2_with (with_reducible refine wpList_load_mid rfl LfT (.tmp 18) rfl w.heap.size 1 rfl (lfV x a).toList _ R3 Try.underlying24 rfl infoLf ?_)
    refine (HLB.out _ HB3.out).mono ?_
    rintro e w4 ⟨A2, c2, rfl, hq, hb⟩
    have HB4 := hid (HB3.out.trans (hb.mono HB3.out.size))
    have HQ2 := hid hq; have HQ1' := hid (sq_on16 HQ1.out hb)
    clear hq hb HB3 HLB R3 HQ1
    have R4 := HRG.out _ HB4.out
    go_wp2_with (with_reducible refine wpList_load_mid rfl LfT (.tmp 23) rfl w.heap.size 1 rfl (lfV x a).toList _ R4 Try.underlying24 rfl infoLf ?_)
    refine (HRL.out _).mono ?_
    rintro e w5 ⟨rfl, hb⟩
    have HB5 := hid (HB4.out.trans (hb.mono HB4.out.size))
    have HQ4 := hid (sq_on16 HQ2.out hb); have HQ3 := hid (sq_on16 HQ1'.out hb)
    clear hb HB4 R4 HQ1' HQ2
    cases lb with
    | false =>
      obtain ⟨h1, h2⟩ := E2.out (by decide)
      subst h1; subst h2
      have HB9 := HB5; have HQ9 := HQ3
      clear HB5 HQ3 HQ4 HDL
      have K9 := hid ((HB9.out.block _ (block_lt K0.out)).trans K0.out)
      go_wp2_with (with_reducible refine wpList_load_row rfl NdT (.tmp 1) rfl w.heap.size rfl NdT (ndV k x a u p) (0, 0) _ K9.out Try.underlying29 rfl infoNd16 ?_)
      refine (HRT.out _ HB9.out).mono ?_
      rintro e w10 ⟨rfl, hb⟩
      have HB10 := hid (HB9.out.trans (hb.mono HB9.out.size)); have HQ10 := hid (sq_on16 HQ9.out hb)
      clear hb HB9 HQ9 K9
      cases rb with
      | false =>
        obtain ⟨hN1, hN2⟩ := E4.out (by decide)
        subst hN1; subst hN2
        go_wp2
        go_ret
        exact ⟨rfl, HB0.out.trans (HB10.out.mono HB0.out.size)⟩
      | true =>
        obtain ⟨hN1, hN2⟩ := E3.out rfl
        subst hN1; subst hN2
        have K10 := (HB10.out.block _ (block_lt K0.out)).trans K0.out
        obtain ⟨q0, q1, q2, q3, q4, q5, q6, q7, q8, q9⟩ := nd_cells K10
        go_wp2_with fail
        refine (HDB.out (by first | rfl | trivial) _ HB10.out).mono ?_
        rintro e w11 ⟨A3, c3, rfl, hq, hb⟩
        have HB11 := hid (HB10.out.trans (hb.mono HB10.out.size)); have HQ11 := hid (sq_on16 HQ10.out hb); have HQ12 := hid hq
        clear hb hq q0 q1 q2 q3 q4 q5 q6 q7 q8 q9 K10 HB10 HQ10
        go_wp2_with fail
        refine (SameB _ _ _ _ _ _ _ HQ11.out.lie HQ12.out.lie (by have := HL2.out; omega)).mono ?_
        rintro e w13 ⟨rfl, hb⟩
        have HB13 := hid (HB11.out.trans (hb.mono HB11.out.size))
        clear hb
        rw [beq_self_eq_true]
        go_wp2
        go_ret
        exact ⟨rfl, HB0.out.trans (HB13.out.mono HB0.out.size)⟩
    | true =>
      obtain ⟨h1, h2⟩ := E1.out rfl
      subst h1; subst h2
      obtain ⟨q0, q1, q2, q3, q4, q5, q6, q7, q8, q9⟩ := nd_cells ((HB5.out.block _ (block_lt K0.out)).trans K0.out)
      go_wp2_with fail
      refine (HDL.out _ HB5.out).mono ?_
      rintro e w6 ⟨A5, c5, rfl, hq, hb⟩
      have HB6 := hid (HB5.out.trans (hb.mono HB5.out.size)); have HQ6 := hid hq; have HQ5 := hid (sq_on16 HQ4.out hb); have HQ7 := hid (sq_on16 HQ3.out hb)
      clear hb hq q0 q1 q2 q3 q4 q5 q6 q7 q8 q9 HB5 HQ4 HQ3 HDL
      go_wp2_with fail
      refine (SameB _ _ _ _ _ _ _ HQ5.out.lie HQ6.out.lie (by have := HL1.out; omega)).mono ?_
      rintro e w9 ⟨rfl, hb⟩
      have HB9 := hid (HB6.out.trans (hb.mono HB6.out.size)); have HQ9 := hid (sq_on16 HQ7.out hb)
      clear hb HB6 HQ5 HQ6 HQ7
      rw [beq_self_eq_true]
      have K9 := hid ((HB9.out.block _ (block_lt K0.out)).trans K0.out)
      go_wp2_with (with_reducible refine wpList_load_row rfl NdT (.tmp 1) rfl w.heap.size rfl NdT (ndV k x a u p) (0, 0) _ K9.out Try.underlying29 rfl infoNd16 ?_)
      refine (HRT.out _ HB9.out).mono ?_
      rintro e w10 ⟨rfl, hb⟩
      have HB10 := hid (HB9.out.trans (hb.mono HB9.out.size)); have HQ10 := hid (sq_on16 HQ9.out hb)
      clear hb HB9 HQ9 K9
      cases rb with
      | false =>
        obtain ⟨hN1, hN2⟩ := E4.out (by decide)
        subst hN1; subst hN2
        go_wp2
        go_ret
        exact ⟨rfl, HB0.out.trans (HB10.out.mono HB0.out.size)⟩
      | true =>
        obtain ⟨hN1, hN2⟩ := E3.out rfl
        subst hN1; subst hN2
        have K10 := (HB10.out.block _ (block_lt K0.out)).trans K0.out
        obtain ⟨q0, q1, q2, q3, q4, q5, q6, q7, q8, q9⟩ := nd_cells K10
        go_wp2_with fail
        refine (HDB.out (by first | rfl | trivial) _ HB10.out).mono ?_
        rintro e w11 ⟨A3, c3, rfl, hq, hb⟩
        have HB11 := hid (HB10.out.trans (hb.mono HB10.out.size)); have HQ11 := hid (sq_on16 HQ10.out hb); have HQ12 := hid hq
        clear hb hq q0 q1 q2 q3 q4 q5 q6 q7 q8 q9 K10 HB10 HQ10
        go_wp2_with fail
        refine (SameB _ _ _ _ _ _ _ HQ11.out.lie HQ12.out.lie (by have := HL2.out; omega)).mono ?_
        rintro e w13 ⟨rfl, hb⟩
        have HB13 := hid (HB11.out.trans (hb.mono HB11.out.size))
        clear hb
        rw [beq_self_eq_true]
        go_wp2
        go_ret
        exact ⟨rfl, HB0.out.trans (HB13.out.mono HB0.out.size)⟩
end Go.Proofs.Ytlgcdddgahjknaa
end
section
namespace Go.Proofs.Ytlgcdddgahjknaa
open Go Go.RowKit
set_option linter.unusedVariables false
set_option linter.unusedSimpArgs false
theorem sameNd_self (k : Nat) (x : Lf) (u : Pnt) : sameNd k x u k x u = true := by unfold sameNd sameLf; simp
theorem sameLf_self (x : Lf) : sameLf x x = true := by unfold sameLf; simp
theorem vecJ_le (xs : List UInt8) (i j : Nat) : (vecJ xs i j).length ≤ xs.length := Nat.le_trans (vecAt_length _) (by rw [List.length_drop]; omega)
theorem srcJ_lt (xs : List UInt8) (i : Nat) : srcJ xs i < 256 := (xs.getD i 0).toNat_lt
theorem tlX_le (xs : List UInt8) (i : Nat) (h : xs.length ≤ 1000000) : LfLe (tlX xs i) := by
  unfold tlX
  split
  · have h0 := vecJ_le xs i 0; have h1 := vecJ_le xs i 1; have h2 := vecJ_le xs i 2; have h3 := vecJ_le xs (tlP xs i + 1) 0; have h4 := vecJ_le xs (tlR xs i) 0; have h5 := srcJ_lt xs (tlP xs i)
    refine ⟨?_, ?_, ?_, ?_, ?_, h5⟩
    · show (vecJ xs i 0).length ≤ _; omega
    · show (vecJ xs i 1).length ≤ _; omega
    · show (vecJ xs i 2).length ≤ _; omega
    · show (if srcJ xs (tlP xs i) = 3 then vecJ xs (tlP xs i + 1) 0 else []).length ≤ _
      split
      · omega
      · exact Nat.zero_le _
    · show (vecJ xs (tlR xs i) 0).length ≤ _; omega
  · exact lf0_le
theorem tkL_le (xs : List UInt8) (i : Nat) (h : xs.length ≤ 1000000) : LfLe (tkL xs i) := by
  unfold tkL
  split
  · exact tlX_le xs (i + 1) h
  · exact lf0_le
theorem tkP_le (xs : List UInt8) (i : Nat) (h : xs.length ≤ 1000000) : PrLe (tkP xs i) := by
  unfold tkP
  split
  · have h0 := vecJ_le xs (i + 1) 0; have h1 := vecJ_le xs (i + 1) 1; have h2 := vecJ_le xs (i + 1) 2
    refine ⟨?_, ?_, ?_⟩
    · show (vecJ xs (i + 1) 0).length ≤ _; omega
    · show (vecJ xs (i + 1) 1).length ≤ _; omega
    · show (lateOf _ _).length ≤ _; rw [lateOf_length]; omega
  · exact pr0_le
theorem tkK_lt (xs : List UInt8) (i : Nat) : tkK xs i < 256 := by
  unfold tkK
  split
  · exact srcJ_lt xs i
  · decide
theorem errD_le (xs : List UInt8) (i n : Nat) : errD xs i n ≤ 4 := by
  induction n with
  | zero => exact Nat.zero_le _
  | succ n ih =>
    show (if errD xs i n = 0 then errJ xs i n else errD xs i n) ≤ 4
    split
    · exact vecAt_err _
    · exact ih
theorem tlE_lt (xs : List UInt8) (i : Nat) : tlE xs i ≤ 4 := by
  have h1 := errD_le xs i 3; have h2 := errD_le xs (tlP xs i + 1) 1; have h3 := errD_le xs (tlR xs i) 1
  unfold tlE
  repeat' split
  all_goals omega
theorem tkE_lt (xs : List UInt8) (i : Nat) : tkE xs i ≤ 4 := by
  have h1 := errD_le xs (i + 1) 3; have h2 := tlE_lt xs (i + 1)
  unfold tkE
  repeat' split
  all_goals omega
theorem tlN_le (xs : List UInt8) (h : tlE xs 0 = 0) : tlN xs 0 ≤ xs.length := by
  unfold tlE at h
  split at h
  · next h1 => exact absurd h h1
  · split at h
    · cases h
    · next h2 =>
      unfold tlN
      have hR : tlR xs 0 ≤ xs.length := by
        unfold tlR
        split
        · exact posD_le (by omega) 1
        · omega
      split
      · exact posD_le hR 1
      · exact Nat.zero_le _
theorem lf_cells {W : World} {g : Nat} {x : Lf} {a : LA} (K : W.heap[g]? = some (.cells (lfV x a) LfT (0, 0))) :
    W.cell? ⟨g, 0, none⟩ = some (.slice a.a0 x.box.length a.c0) ∧ W.cell? ⟨g, 1, none⟩ = some (.slice a.a1 x.sign.length a.c1) ∧ W.cell? ⟨g, 2, none⟩ = some (.slice a.a2 x.ident.length a.c2) ∧ W.cell? ⟨g, 3, none⟩ = some (.int .u8 (x.src : Int)) ∧ W.cell? ⟨g, 4, none⟩ = some (.slice a.a3 x.par.length a.c3) ∧ W.cell? ⟨g, 5, none⟩ = some (.slice a.a4 x.sig.length a.c4) :=
  ⟨cell_of K 0 _ rfl, cell_of K 1 _ rfl, cell_of K 2 _ rfl, cell_of K 3 _ rfl, cell_of K 4 _ rfl, cell_of K 5 _ rfl⟩
theorem rd_below {w w' : World} {g e : Nat} {xs : List UInt8} (h : Rd w g xs e) (hb : Below w.heap.size w w') : Rd w' g xs e := by
  have hl := h.lt
  obtain ⟨A, c, hg, hs⟩ := h
  exact ⟨A, c, (hb.block g hl).trans hg, hs.keep fun b o hlt => hb.cell (p := ⟨b, o, none⟩) (Nat.lt_trans hlt hl)⟩
set_option maxHeartbeats 4000000 in
theorem nodeTakes_any (hO : NdOf) (hT : NdTakeLeaf) (hA : Alive16) (A : Option Addr) (xs : List UInt8) (c : Nat) (w : World) (hq : Sq w w.heap.size A c (bvs xs)) :
    Calls Try.prog 4 #[.slice A xs.length c] w (RetB w true) := by
  have HA := hid hA
  by_cases hlen : 1500 < xs.length
  · have hi : (xs.length : Int) > 1500 := by omega
    have hi2 : (1500 : Int) < (xs.length : Int) := by omega
    clear hlen
    go_enter Try.func4, Try.ntmps4
    go_wp2_with fail
    refine (HA.out _).mono ?_
    rintro e w1 ⟨rfl, hb⟩
    have HB := hid hb
    clear hb
    go_wp2
    go_ret
    exact ⟨rfl, HB.out⟩
  have hi : ¬ (xs.length : Int) > 1500 := by omega
  have hi2 : ¬ (1500 : Int) < (xs.length : Int) := by omega
  have HT1 : Hid (∀ W, Below w.heap.size w W → Calls Try.prog 17 #[.slice A xs.length c, .int .i64 0] W (TkOut W w.heap.size xs 0)) := hid fun W h => TakeN16_any A xs c 0 w.heap.size W (hq.below h) h.size (by omega) (Nat.zero_le _)
  have HT2 : Hid (∀ W, Below w.heap.size w W → Calls Try.prog 20 #[.slice A xs.length c, .int .i64 0] W (TlOut W w.heap.size xs 0)) := hid fun W h => TakeLeaf16_any A xs c 0 w.heap.size W (hq.below h) h.size (by omega) (Nat.zero_le _)
  have HOF : Hid (∀ W, Below w.heap.size w W → Calls Try.prog 18 #[.slice A xs.length c] W (NodeE W (ofK xs) (ofL xs) (ofP xs) (ofE xs))) := hid fun W h => hO A xs c W ((hq.below h).more h.size) (by omega)
  have HNR : Hid (∀ W, Below w.heap.size w W → Calls Try.prog 21 #[.slice A xs.length c] W fun e w' => ∃ g, e = .returned (.pointer (some ⟨g, 0, none⟩)) ∧ W.heap.size ≤ g ∧ Rd w' g xs 0 ∧ W.grownBy w' none) := hid fun W h => NewReader_any A xs c W w.heap.size ((hq.below h).lie) (by omega)
  have HTL : Hid (∀ g W, Rd W g xs 0 → _) := hid fun g W h => hT g xs W h (by omega)
  have HXL := hid (Nat.le_of_not_lt hlen)
  have HLE1 := hid (tkL_le xs 0 (by omega)); have HLE2 := hid (tkP_le xs 0 (by omega)); have HLE3 := hid (tlX_le xs 0 (by omega))
  have HNL := hid (tlN_le xs)
  have hb2 := tlE_lt xs 0; have hb0 := tkE_lt xs 0
  have hofE0 : ofE xs = 0 → ofK xs = tkK xs 0 ∧ ofL xs = tkL xs 0 ∧ ofP xs = tkP xs 0 := fun h => by unfold ofK ofL ofP; rw [if_pos h, if_pos h, if_pos h]; exact ⟨rfl, rfl, rfl⟩
  have hofE1 : ¬ ofE xs = 0 → ofK xs = 0 ∧ ofL xs = lf0 ∧ ofP xs = pr0 := fun h => by unfold ofK ofL ofP; rw [if_neg h, if_neg h, if_neg h]; exact ⟨rfl, rfl, rfl⟩
  have hofE : ofE xs = if tkE xs 0 ≠ 0 then tkE xs 0 else if tkN xs 0 < xs.length then 5 else 0 := rfl
  unfold TkOut at HT1
  unfold TlOut at HT2
  obtain ⟨K0, hK0⟩ : ∃ t, t = tkK xs 0 := ⟨_, rfl⟩
  obtain ⟨L0, hL0⟩ : ∃ t, t = tkL xs 0 := ⟨_, rfl⟩
  obtain ⟨P0, hP0⟩ : ∃ t, t = tkP xs 0 := ⟨_, rfl⟩
  obtain ⟨E0, hE0⟩ : ∃ t, t = tkE xs 0 := ⟨_, rfl⟩
  obtain ⟨N0, hN0⟩ : ∃ t, t = tkN xs 0 := ⟨_, rfl⟩
  obtain ⟨K1, hK1⟩ : ∃ t, t = ofK xs := ⟨_, rfl⟩
  obtain ⟨L1, hL1⟩ : ∃ t, t = ofL xs := ⟨_, rfl⟩
  obtain ⟨P1, hP1⟩ : ∃ t, t = ofP xs := ⟨_, rfl⟩
  obtain ⟨E1, hE1⟩ : ∃ t, t = ofE xs := ⟨_, rfl⟩
  obtain ⟨X2, hX2⟩ : ∃ t, t = tlX xs 0 := ⟨_, rfl⟩
  obtain ⟨E2, hE2⟩ : ∃ t, t = tlE xs 0 := ⟨_, rfl⟩
  obtain ⟨N2, hN2⟩ : ∃ t, t = tlN xs 0 := ⟨_, rfl⟩
  rw [← hK0, ← hL0, ← hP0] at hofE0
  rw [← hK1, ← hL1, ← hP1, ← hE1] at hofE0 hofE1
  rw [← hE1, ← hE0, ← hN0] at hofE
  rw [← hL0] at HLE1
  rw [← hP0] at HLE2
  rw [← hX2] at HLE3
  rw [← hE2, ← hN2] at HNL
  rw [← hE2] at hb2
  rw [← hE0] at hb0
  have hw2 : wrap64 (E2 : Int) = (E2 : Int) := wrap64_in' (by omega) (by omega)
  have hw0 : wrap64 (E0 : Int) = (E0 : Int) := wrap64_in' (by omega) (by omega)
  clear hb2 hb0
  simp only [← hK0, ← hL0, ← hP0, ← hE0, ← hN0] at HT1
  simp only [← hX2, ← hE2, ← hN2] at HT2 HTL
  rw [← hK1, ← hL1, ← hP1, ← hE1] at HOF
  have HE0 := hid hofE0; have HE1 := hid hofE1; have HE := hid hofE
  clear hofE0 hofE1 hofE hK0 hL0 hP0 hE0 hN0 hK1 hL1 hP1 hE1 hX2 hE2 hN2 hq hlen hO hT
  have hbuild := build_nd
  go_enter Try.func4, Try.ntmps4
  go_wp2_with fail
  refine (HA.out _).mono ?_
  rintro e w1 ⟨rfl, hb⟩
  have HB1 := hid hb
  clear hb HA hA
  go_wp2_with fail
  refine (HT1.out _ HB1.out).mono ?_
  rintro e w2 ⟨a0, p0, rfl, hl, hp, hb⟩
  have HB2 := hid (HB1.out.trans (hb.mono HB1.out.size))
  have hl := hl.in_ HB2.out.size; have hp := hp.in_ HB2.out.size
  have K3 := hid (setRow_heap (w2.alloc (.cells ndZ NdT)) w2.heap.size ndZ (ndV K0 L0 a0 P0 p0) NdT (0, 0) (heap_alloc_new w2 _))
  have HBn : Hid (Below w2.heap.size w2 ((w2.alloc (.cells ndZ NdT)).setRow w2.heap.size (ndV K0 L0 a0 P0 p0))) := hid (((Below.refl _ _).alloc (Nat.le_refl _) _).trans (below_put _ _ _ (Nat.le_refl _)))
  have HL3 := hid (hl.on HBn.out); have HP3 := hid (hp.on HBn.out)
  have HB3 := hid (HB2.out.trans (HBn.out.mono HB2.out.size))
  have KZ := heap_alloc_new w2 (.cells ndZ NdT)
  have HPB := hid HB2.out.size
  clear hl hp hb HB1 HB2 HBn
  by_cases h0 : E0 = 0
  · have h0i : (E0 : Int) = 0 := by omega
    by_cases hlt : N0 < xs.length
    · have hli : (N0 : Int) < (xs.length : Int) := by omega
      have hx : E1 = 5 := by rw [HE.out, if_neg (by omega), if_pos hlt]
      have HNE : Hid (¬ E1 = 0) := hid (by omega)
      subst hx; subst h0
      clear hlt h0i
      go_wp2_with (with_reducible refine wpList_store_row rfl NdT (.tmp 3) _ rfl w2.heap.size (ndV K0 L0 a0 P0 p0) rfl rfl NdT ndZ KZ infoNd16 ndZ_size ndV_one ?_)
      refine (HOF.out _ HB3.out).mono ?_
      rintro e w4 ⟨a1, p1, rfl, hl, hp, hb⟩
      generalize (w2.alloc (Obj.cells ndZ NdT)).setRow w2.heap.size (ndV K0 L0 a0 P0 p0) = w3 at K3 HL3 HP3 HB3 hb ⊢
      have HB4 := hid (HB3.out.trans (hb.mono HB3.out.size))
      have K34 := hid ((hb.block _ (block_lt K3.out)).trans K3.out)
      have HL34 := hid (HL3.out.on hb); have HP34 := hid (HP3.out.on hb)
      have K6 := hid (setRow_heap (w4.alloc (.cells ndZ NdT)) w4.heap.size ndZ (ndV K1 L1 a1 P1 p1) NdT (0, 0) (heap_alloc_new w4 _))
      have HBn : Hid (Below w4.heap.size w4 ((w4.alloc (.cells ndZ NdT)).setRow w4.heap.size (ndV K1 L1 a1 P1 p1))) := hid (((Below.refl _ _).alloc (Nat.le_refl _) _).trans (below_put _ _ _ (Nat.le_refl _)))
      have HL6 := hid (hl.on HBn.out); have HP6 := hid (hp.on HBn.out)
      have K35 := hid ((HBn.out.block _ (block_lt K34.out)).trans K34.out)
      have HL35 := hid (HL34.out.on HBn.out); have HP35 := hid (HP34.out.on HBn.out)
      have HB6 := hid (HB4.out.trans (HBn.out.mono HB4.out.size))
      have KZ6 := heap_alloc_new w4 (.cells ndZ NdT)
      obtain ⟨q0, q1, q2, q3, q4, q5, q6, q7, q8, q9⟩ := nd_cells K6.out
      obtain ⟨s0, s1, s2, s3, s4, s5, s6, s7, s8, s9⟩ := nd_cells K35.out
      clear hl hp hb KZ HBn HB3 HL3 HP3 K3 HB4 K34 HL34 HP34
      go_wp2_with (with_reducible refine wpList_store_row rfl NdT (.tmp 6) _ rfl w4.heap.size (ndV K1 L1 a1 P1 p1) rfl rfl NdT ndZ KZ6 infoNd16 ndZ_size ndV_one ?_)
      refine (Same16_any K1 L1 a1 P1 p1 0 lf0 la0 pr0 pa0 _ HL6.out (lf0_in _) HP6.out (pr0_in _) (by rw [(HE1.out HNE.out).2.1]; exact lf0_le) (by rw [(HE1.out HNE.out).2.2]; exact pr0_le)).mono ?_
      rintro e w7 ⟨rfl, hb⟩
      rw [(HE1.out HNE.out).1, (HE1.out HNE.out).2.1, (HE1.out HNE.out).2.2, sameNd_self]
      have HB7 := hid (HB6.out.trans (hb.mono HB6.out.size))
      clear hb HB6 K6 K35 HL6 HP6 HL35 HP35
      clear q0 q1 q2 q3 q4 q5 q6 q7 q8 q9 s0 s1 s2 s3 s4 s5 s6 s7 s8 s9 KZ6
      go_wp2_with fail
      refine (HT2.out _ HB7.out).mono ?_
      rintro e w8 ⟨a2, rfl, hl, hb⟩
      have HB8 := hid (HB7.out.trans (hb.mono HB7.out.size))
      have K8 := hid (setRow_heap (w8.alloc (.cells lfZ LfT)) w8.heap.size lfZ (lfV X2 a2) LfT (0, 0) (heap_alloc_new w8 _))
      have HBn : Hid (Below w.heap.size w8 ((w8.alloc (.cells lfZ LfT)).setRow w8.heap.size (lfV X2 a2))) := hid (((Below.refl _ _).alloc HB8.out.size _).trans (below_put _ _ _ HB8.out.size))
      have HL8 := hid (hl.on HBn.out)
      have HB9 := hid (HB8.out.trans HBn.out)
      have KZ8 := heap_alloc_new w8 (.cells lfZ LfT)
      clear hl hb HB7 HBn
      go_wp2_with (with_reducible refine wpList_store_row rfl LfT (.tmp 8) _ rfl w8.heap.size (lfV X2 a2) rfl rfl LfT lfZ KZ8 infoLf lfZ_size lfV_one ?_)
      refine (HNR.out _ HB9.out).mono ?_
      rintro e w10 ⟨g, rfl, hg, hrd, hgr⟩
      generalize (w8.alloc (Obj.cells lfZ LfT)).setRow w8.heap.size (lfV X2 a2) = w9 at K8 HL8 HB9 hg hgr ⊢
      have HG : Hid (w8.heap.size < g) := hid (Nat.lt_of_lt_of_le (block_lt K8.out) hg)
      have HB10 := hid (HB9.out.grown hgr HB9.out.size (fun k e => by cases e))
      have K10 := hid (block_grown K8.out hgr (by simp))
      have HL10 := hid (HL8.out.on ((Below.refl _ _).grown hgr HB9.out.size (fun k e => by cases e)))
      have HRD := hid hrd
      have HG2 : Hid (w.heap.size ≤ g) := hid (Nat.le_trans HB9.out.size hg)
      clear hg hrd hgr KZ8 K8 HL8 HB9
      go_wp2_with fail
      refine (HTL.out g w10 HRD.out).mono ?_
      rintro e w11 ⟨a3, rfl, hl, hrd, hgr⟩
      have HB11 := hid (HB10.out.grown hgr HB10.out.size (fun k e => by cases e; exact HG2.out))
      have K11 := hid (block_grown K10.out hgr (by intro e; injection e with e; have := HG.out; omega))
      have HL11 := hid (HL10.out.on ((Below.refl _ _).grown hgr HB10.out.size (fun k e => by cases e; exact HG2.out)))
      have K12 := hid (setRow_heap (w11.alloc (.cells lfZ LfT)) w11.heap.size lfZ (lfV X2 a3) LfT (0, 0) (heap_alloc_new w11 _))
      have HBn : Hid (Below w11.heap.size w11 ((w11.alloc (.cells lfZ LfT)).setRow w11.heap.size (lfV X2 a3))) := hid (((Below.refl _ _).alloc (Nat.le_refl _) _).trans (below_put _ _ _ (Nat.le_refl _)))
      have HL12 := hid (hl.on HBn.out)
      have K112 := hid ((HBn.out.block _ (block_lt K11.out)).trans K11.out)
      have HL112 := hid (HL11.out.on (HBn.out.mono HB11.out.size))
      have HRD2 : Hid (E2 = 0 → Rd ((w11.alloc (.cells lfZ LfT)).setRow w11.heap.size (lfV X2 a3)) g (xs.drop N2) 0) := hid fun h => rd_below (hrd h) HBn.out
      have HB12 := hid (HB11.out.trans (HBn.out.mono HB11.out.size))
      have KZ12 := heap_alloc_new w11 (.cells lfZ LfT)
      obtain ⟨q0, q1, q2, q3, q4, q5⟩ := lf_cells K12.out
      obtain ⟨s0, s1, s2, s3, s4, s5⟩ := lf_cells K112.out
      clear hl hrd hgr HB10 K10 HL10 HRD HG HB11 K11 HL11 HBn
      go_wp2_with (with_reducible refine wpList_store_row rfl LfT (.tmp 12) _ rfl w11.heap.size (lfV X2 a3) rfl rfl LfT lfZ KZ12 infoLf lfZ_size lfV_one ?_)
      refine (SameLeaf16_any X2 X2 a3 a2 _ HL12.out (HL112.out.in_ HB12.out.size) HLE3.out).mono ?_
      rintro e w13 ⟨rfl, hb⟩
      rw [sameLf_self]
      have HB13 := hid (HB12.out.trans (hb.mono HB12.out.size))
      have HRD3 : Hid (E2 = 0 → Rd w13 g (xs.drop N2) 0) := hid fun h => rd_below (HRD2.out h) hb
      clear hb HB12 K12 K112 HL12 HL112 HRD2 KZ12 q0 q1 q2 q3 q4 q5 s0 s1 s2 s3 s4 s5
      by_cases hz : E2 = 0
      · have hz1 : (E2 : Int) = 0 := by omega
        have hz2 : ((E2 : Int) != 0) = false := by rw [hz1]; rfl
        have HRD4 := hid (HRD3.out hz)
        have hdr : ((xs.drop N2).length : Int) = (xs.length : Int) - (N2 : Int) := by rw [List.length_drop]; have := HNL.out hz; omega
        have hwr : wrap64 ((xs.length : Int) - (N2 : Int)) = (xs.length : Int) - (N2 : Int) := wrap64_in' (by have := HNL.out hz; omega) (by have := HXL.out; omega)
        have HDR := hid hdr
        subst hz
        clear hdr hz1
        go_wp2_with fail
        refine (Left_any g _ 0 w13 HRD4.out).mono ?_
        rintro e w14 ⟨rfl, rfl⟩
        rw [HDR.out]
        go_wp2
        go_ret
        exact ⟨by simp, HB13.out⟩
      · have hz1 : ¬ (E2 : Int) = 0 := by omega
        have hz2 : ((E2 : Int) != 0) = true := by rw [bne_iff_ne]; exact hz1
        clear hz
        go_wp2
        go_ret
        exact ⟨by simp, HB13.out⟩
    · have hli : ¬ (N0 : Int) < (xs.length : Int) := by omega
      have hx : E1 = 0 := by rw [HE.out, if_neg (by omega), if_neg hlt]
      have HNE : Hid (E1 = 0) := hid hx
      subst hx; subst h0
      clear hlt h0i
      go_wp2_with (with_reducible refine wpList_store_row rfl NdT (.tmp 3) _ rfl w2.heap.size (ndV K0 L0 a0 P0 p0) rfl rfl NdT ndZ KZ infoNd16 ndZ_size ndV_one ?_)
      refine (HOF.out _ HB3.out).mono ?_
      rintro e w4 ⟨a1, p1, rfl, hl, hp, hb⟩
      generalize (w2.alloc (Obj.cells ndZ NdT)).setRow w2.heap.size (ndV K0 L0 a0 P0 p0) = w3 at K3 HL3 HP3 HB3 hb ⊢
      have HB4 := hid (HB3.out.trans (hb.mono HB3.out.size))
      have K34 := hid ((hb.block _ (block_lt K3.out)).trans K3.out)
      have HL34 := hid (HL3.out.on hb); have HP34 := hid (HP3.out.on hb)
      have K6 := hid (setRow_heap (w4.alloc (.cells ndZ NdT)) w4.heap.size ndZ (ndV K1 L1 a1 P1 p1) NdT (0, 0) (heap_alloc_new w4 _))
      have HBn : Hid (Below w4.heap.size w4 ((w4.alloc (.cells ndZ NdT)).setRow w4.heap.size (ndV K1 L1 a1 P1 p1))) := hid (((Below.refl _ _).alloc (Nat.le_refl _) _).trans (below_put _ _ _ (Nat.le_refl _)))
      have HL6 := hid (hl.on HBn.out); have HP6 := hid (hp.on HBn.out)
      have K35 := hid ((HBn.out.block _ (block_lt K34.out)).trans K34.out)
      have HL35 := hid (HL34.out.on HBn.out); have HP35 := hid (HP34.out.on HBn.out)
      have HB6 := hid (HB4.out.trans (HBn.out.mono HB4.out.size))
      have KZ6 := heap_alloc_new w4 (.cells ndZ NdT)
      obtain ⟨q0, q1, q2, q3, q4, q5, q6, q7, q8, q9⟩ := nd_cells K6.out
      obtain ⟨s0, s1, s2, s3, s4, s5, s6, s7, s8, s9⟩ := nd_cells K35.out
      clear hl hp hb KZ HBn HB3 HL3 HP3 K3 HB4 K34 HL34 HP34
      go_wp2_with (with_reducible refine wpList_store_row rfl NdT (.tmp 6) _ rfl w4.heap.size (ndV K1 L1 a1 P1 p1) rfl rfl NdT ndZ KZ6 infoNd16 ndZ_size ndV_one ?_)
      refine (Same16_any K1 L1 a1 P1 p1 K0 L0 a0 P0 p0 _ HL6.out HL35.out HP6.out HP35.out (by rw [(HE0.out HNE.out).2.1]; exact HLE1.out) (by rw [(HE0.out HNE.out).2.2]; exact HLE2.out)).mono ?_
      rintro e w7 ⟨rfl, hb⟩
      rw [(HE0.out HNE.out).1, (HE0.out HNE.out).2.1, (HE0.out HNE.out).2.2, sameNd_self]
      have HB7 := hid (HB6.out.trans (hb.mono HB6.out.size))
      clear hb HB6 K6 K35 HL6 HP6 HL35 HP35
      clear q0 q1 q2 q3 q4 q5 q6 q7 q8 q9 s0 s1 s2 s3 s4 s5 s6 s7 s8 s9 KZ6
      go_wp2_with fail
      refine (HT2.out _ HB7.out).mono ?_
      rintro e w8 ⟨a2, rfl, hl, hb⟩
      have HB8 := hid (HB7.out.trans (hb.mono HB7.out.size))
      have K8 := hid (setRow_heap (w8.alloc (.cells lfZ LfT)) w8.heap.size lfZ (lfV X2 a2) LfT (0, 0) (heap_alloc_new w8 _))
      have HBn : Hid (Below w.heap.size w8 ((w8.alloc (.cells lfZ LfT)).setRow w8.heap.size (lfV X2 a2))) := hid (((Below.refl _ _).alloc HB8.out.size _).trans (below_put _ _ _ HB8.out.size))
      have HL8 := hid (hl.on HBn.out)
      have HB9 := hid (HB8.out.trans HBn.out)
      have KZ8 := heap_alloc_new w8 (.cells lfZ LfT)
      clear hl hb HB7 HBn
      go_wp2_with (with_reducible refine wpList_store_row rfl LfT (.tmp 8) _ rfl w8.heap.size (lfV X2 a2) rfl rfl LfT lfZ KZ8 infoLf lfZ_size lfV_one ?_)
      refine (HNR.out _ HB9.out).mono ?_
      rintro e w10 ⟨g, rfl, hg, hrd, hgr⟩
      generalize (w8.alloc (Obj.cells lfZ LfT)).setRow w8.heap.size (lfV X2 a2) = w9 at K8 HL8 HB9 hg hgr ⊢
      have HG : Hid (w8.heap.size < g) := hid (Nat.lt_of_lt_of_le (block_lt K8.out) hg)
      have HB10 := hid (HB9.out.grown hgr HB9.out.size (fun k e => by cases e))
      have K10 := hid (block_grown K8.out hgr (by simp))
      have HL10 := hid (HL8.out.on ((Below.refl _ _).grown hgr HB9.out.size (fun k e => by cases e)))
      have HRD := hid hrd
      have HG2 : Hid (w.heap.size ≤ g) := hid (Nat.le_trans HB9.out.size hg)
      clear hg hrd hgr KZ8 K8 HL8 HB9
      go_wp2_with fail
      refine (HTL.out g w10 HRD.out).mono ?_
      rintro e w11 ⟨a3, rfl, hl, hrd, hgr⟩
      have HB11 := hid (HB10.out.grown hgr HB10.out.size (fun k e => by cases e; exact HG2.out))
      have K11 := hid (block_grown K10.out hgr (by intro e; injection e with e; have := HG.out; omega))
      have HL11 := hid (HL10.out.on ((Below.refl _ _).grown hgr HB10.out.size (fun k e => by cases e; exact HG2.out)))
      have K12 := hid (setRow_heap (w11.alloc (.cells lfZ LfT)) w11.heap.size lfZ (lfV X2 a3) LfT (0, 0) (heap_alloc_new w11 _))
      have HBn : Hid (Below w11.heap.size w11 ((w11.alloc (.cells lfZ LfT)).setRow w11.heap.size (lfV X2 a3))) := hid (((Below.refl _ _).alloc (Nat.le_refl _) _).trans (below_put _ _ _ (Nat.le_refl _)))
      have HL12 := hid (hl.on HBn.out)
      have K112 := hid ((HBn.out.block _ (block_lt K11.out)).trans K11.out)
      have HL112 := hid (HL11.out.on (HBn.out.mono HB11.out.size))
      have HRD2 : Hid (E2 = 0 → Rd ((w11.alloc (.cells lfZ LfT)).setRow w11.heap.size (lfV X2 a3)) g (xs.drop N2) 0) := hid fun h => rd_below (hrd h) HBn.out
      have HB12 := hid (HB11.out.trans (HBn.out.mono HB11.out.size))
      have KZ12 := heap_alloc_new w11 (.cells lfZ LfT)
      obtain ⟨q0, q1, q2, q3, q4, q5⟩ := lf_cells K12.out
      obtain ⟨s0, s1, s2, s3, s4, s5⟩ := lf_cells K112.out
      clear hl hrd hgr HB10 K10 HL10 HRD HG HB11 K11 HL11 HBn
      go_wp2_with (with_reducible refine wpList_store_row rfl LfT (.tmp 12) _ rfl w11.heap.size (lfV X2 a3) rfl rfl LfT lfZ KZ12 infoLf lfZ_size lfV_one ?_)
      refine (SameLeaf16_any X2 X2 a3 a2 _ HL12.out (HL112.out.in_ HB12.out.size) HLE3.out).mono ?_
      rintro e w13 ⟨rfl, hb⟩
      rw [sameLf_self]
      have HB13 := hid (HB12.out.trans (hb.mono HB12.out.size))
      have HRD3 : Hid (E2 = 0 → Rd w13 g (xs.drop N2) 0) := hid fun h => rd_below (HRD2.out h) hb
      clear hb HB12 K12 K112 HL12 HL112 HRD2 KZ12 q0 q1 q2 q3 q4 q5 s0 s1 s2 s3 s4 s5
      by_cases hz : E2 = 0
      · have hz1 : (E2 : Int) = 0 := by omega
        have hz2 : ((E2 : Int) != 0) = false := by rw [hz1]; rfl
        have HRD4 := hid (HRD3.out hz)
        have hdr : ((xs.drop N2).length : Int) = (xs.length : Int) - (N2 : Int) := by rw [List.length_drop]; have := HNL.out hz; omega
        have hwr : wrap64 ((xs.length : Int) - (N2 : Int)) = (xs.length : Int) - (N2 : Int) := wrap64_in' (by have := HNL.out hz; omega) (by have := HXL.out; omega)
        have HDR := hid hdr
        subst hz
        clear hdr hz1
        go_wp2_with fail
        refine (Left_any g _ 0 w13 HRD4.out).mono ?_
        rintro e w14 ⟨rfl, rfl⟩
        rw [HDR.out]
        go_wp2
        go_ret
        exact ⟨by simp, HB13.out⟩
      · have hz1 : ¬ (E2 : Int) = 0 := by omega
        have hz2 : ((E2 : Int) != 0) = true := by rw [bne_iff_ne]; exact hz1
        clear hz
        go_wp2
        go_ret
        exact ⟨by simp, HB13.out⟩
  · have h0i : ¬ (E0 : Int) = 0 := by omega
    have h0b : ((E0 : Int) != 0) = true := by rw [bne_iff_ne]; exact h0i
    have hx : E1 = E0 := by rw [HE.out, if_pos h0]
    have HNE : Hid (¬ E1 = 0) := hid (by omega)
    subst hx
    clear h0
    go_wp2_with (with_reducible refine wpList_store_row rfl NdT (.tmp 3) _ rfl w2.heap.size (ndV K0 L0 a0 P0 p0) rfl rfl NdT ndZ KZ infoNd16 ndZ_size ndV_one ?_)
    refine (HOF.out _ HB3.out).mono ?_
    rintro e w4 ⟨a1, p1, rfl, hl, hp, hb⟩
    generalize (w2.alloc (Obj.cells ndZ NdT)).setRow w2.heap.size (ndV K0 L0 a0 P0 p0) = w3 at K3 HL3 HP3 HB3 hb ⊢
    have HB4 := hid (HB3.out.trans (hb.mono HB3.out.size))
    have K34 := hid ((hb.block _ (block_lt K3.out)).trans K3.out)
    have HL34 := hid (HL3.out.on hb); have HP34 := hid (HP3.out.on hb)
    have K6 := hid (setRow_heap (w4.alloc (.cells ndZ NdT)) w4.heap.size ndZ (ndV K1 L1 a1 P1 p1) NdT (0, 0) (heap_alloc_new w4 _))
    have HBn : Hid (Below w4.heap.size w4 ((w4.alloc (.cells ndZ NdT)).setRow w4.heap.size (ndV K1 L1 a1 P1 p1))) := hid (((Below.refl _ _).alloc (Nat.le_refl _) _).trans (below_put _ _ _ (Nat.le_refl _)))
    have HL6 := hid (hl.on HBn.out); have HP6 := hid (hp.on HBn.out)
    have K35 := hid ((HBn.out.block _ (block_lt K34.out)).trans K34.out)
    have HL35 := hid (HL34.out.on HBn.out); have HP35 := hid (HP34.out.on HBn.out)
    have HB6 := hid (HB4.out.trans (HBn.out.mono HB4.out.size))
    have KZ6 := heap_alloc_new w4 (.cells ndZ NdT)
    obtain ⟨q0, q1, q2, q3, q4, q5, q6, q7, q8, q9⟩ := nd_cells K6.out
    obtain ⟨s0, s1, s2, s3, s4, s5, s6, s7, s8, s9⟩ := nd_cells K35.out
    clear hl hp hb KZ HBn HB3 HL3 HP3 K3 HB4 K34 HL34 HP34
    go_wp2_with (with_reducible refine wpList_store_row rfl NdT (.tmp 6) _ rfl w4.heap.size (ndV K1 L1 a1 P1 p1) rfl rfl NdT ndZ KZ6 infoNd16 ndZ_size ndV_one ?_)
    refine (Same16_any K1 L1 a1 P1 p1 0 lf0 la0 pr0 pa0 _ HL6.out (lf0_in _) HP6.out (pr0_in _) (by rw [(HE1.out HNE.out).2.1]; exact lf0_le) (by rw [(HE1.out HNE.out).2.2]; exact pr0_le)).mono ?_
    rintro e w7 ⟨rfl, hb⟩
    rw [(HE1.out HNE.out).1, (HE1.out HNE.out).2.1, (HE1.out HNE.out).2.2, sameNd_self]
    have HB7 := hid (HB6.out.trans (hb.mono HB6.out.size))
    clear hb HB6 K6 K35 HL6 HP6 HL35 HP35
    clear q0 q1 q2 q3 q4 q5 q6 q7 q8 q9 s0 s1 s2 s3 s4 s5 s6 s7 s8 s9 KZ6
    go_wp2_with fail
    refine (HT2.out _ HB7.out).mono ?_
    rintro e w8 ⟨a2, rfl, hl, hb⟩
    have HB8 := hid (HB7.out.trans (hb.mono HB7.out.size))
    have K8 := hid (setRow_heap (w8.alloc (.cells lfZ LfT)) w8.heap.size lfZ (lfV X2 a2) LfT (0, 0) (heap_alloc_new w8 _))
    have HBn : Hid (Below w.heap.size w8 ((w8.alloc (.cells lfZ LfT)).setRow w8.heap.size (lfV X2 a2))) := hid (((Below.refl _ _).alloc HB8.out.size _).trans (below_put _ _ _ HB8.out.size))
    have HL8 := hid (hl.on HBn.out)
    have HB9 := hid (HB8.out.trans HBn.out)
    have KZ8 := heap_alloc_new w8 (.cells lfZ LfT)
    clear hl hb HB7 HBn
    go_wp2_with (with_reducible refine wpList_store_row rfl LfT (.tmp 8) _ rfl w8.heap.size (lfV X2 a2) rfl rfl LfT lfZ KZ8 infoLf lfZ_size lfV_one ?_)
    refine (HNR.out _ HB9.out).mono ?_
    rintro e w10 ⟨g, rfl, hg, hrd, hgr⟩
    generalize (w8.alloc (Obj.cells lfZ LfT)).setRow w8.heap.size (lfV X2 a2) = w9 at K8 HL8 HB9 hg hgr ⊢
    have HG : Hid (w8.heap.size < g) := hid (Nat.lt_of_lt_of_le (block_lt K8.out) hg)
    have HB10 := hid (HB9.out.grown hgr HB9.out.size (fun k e => by cases e))
    have K10 := hid (block_grown K8.out hgr (by simp))
    have HL10 := hid (HL8.out.on ((Below.refl _ _).grown hgr HB9.out.size (fun k e => by cases e)))
    have HRD := hid hrd
    have HG2 : Hid (w.heap.size ≤ g) := hid (Nat.le_trans HB9.out.size hg)
    clear hg hrd hgr KZ8 K8 HL8 HB9
    go_wp2_with fail
    refine (HTL.out g w10 HRD.out).mono ?_
    rintro e w11 ⟨a3, rfl, hl, hrd, hgr⟩
    have HB11 := hid (HB10.out.grown hgr HB10.out.size (fun k e => by cases e; exact HG2.out))
    have K11 := hid (block_grown K10.out hgr (by intro e; injection e with e; have := HG.out; omega))
    have HL11 := hid (HL10.out.on ((Below.refl _ _).grown hgr HB10.out.size (fun k e => by cases e; exact HG2.out)))
    have K12 := hid (setRow_heap (w11.alloc (.cells lfZ LfT)) w11.heap.size lfZ (lfV X2 a3) LfT (0, 0) (heap_alloc_new w11 _))
    have HBn : Hid (Below w11.heap.size w11 ((w11.alloc (.cells lfZ LfT)).setRow w11.heap.size (lfV X2 a3))) := hid (((Below.refl _ _).alloc (Nat.le_refl _) _).trans (below_put _ _ _ (Nat.le_refl _)))
    have HL12 := hid (hl.on HBn.out)
    have K112 := hid ((HBn.out.block _ (block_lt K11.out)).trans K11.out)
    have HL112 := hid (HL11.out.on (HBn.out.mono HB11.out.size))
    have HRD2 : Hid (E2 = 0 → Rd ((w11.alloc (.cells lfZ LfT)).setRow w11.heap.size (lfV X2 a3)) g (xs.drop N2) 0) := hid fun h => rd_below (hrd h) HBn.out
    have HB12 := hid (HB11.out.trans (HBn.out.mono HB11.out.size))
    have KZ12 := heap_alloc_new w11 (.cells lfZ LfT)
    obtain ⟨q0, q1, q2, q3, q4, q5⟩ := lf_cells K12.out
    obtain ⟨s0, s1, s2, s3, s4, s5⟩ := lf_cells K112.out
    clear hl hrd hgr HB10 K10 HL10 HRD HG HB11 K11 HL11 HBn
    go_wp2_with (with_reducible refine wpList_store_row rfl LfT (.tmp 12) _ rfl w11.heap.size (lfV X2 a3) rfl rfl LfT lfZ KZ12 infoLf lfZ_size lfV_one ?_)
    refine (SameLeaf16_any X2 X2 a3 a2 _ HL12.out (HL112.out.in_ HB12.out.size) HLE3.out).mono ?_
    rintro e w13 ⟨rfl, hb⟩
    rw [sameLf_self]
    have HB13 := hid (HB12.out.trans (hb.mono HB12.out.size))
    have HRD3 : Hid (E2 = 0 → Rd w13 g (xs.drop N2) 0) := hid fun h => rd_below (HRD2.out h) hb
    clear hb HB12 K12 K112 HL12 HL112 HRD2 KZ12 q0 q1 q2 q3 q4 q5 s0 s1 s2 s3 s4 s5
    by_cases hz : E2 = 0
    · have hz1 : (E2 : Int) = 0 := by omega
      have hz2 : ((E2 : Int) != 0) = false := by rw [hz1]; rfl
      have HRD4 := hid (HRD3.out hz)
      have hdr : ((xs.drop N2).length : Int) = (xs.length : Int) - (N2 : Int) := by rw [List.length_drop]; have := HNL.out hz; omega
      have hwr : wrap64 ((xs.length : Int) - (N2 : Int)) = (xs.length : Int) - (N2 : Int) := wrap64_in' (by have := HNL.out hz; omega) (by have := HXL.out; omega)
      have HDR := hid hdr
      subst hz
      clear hdr hz1
      go_wp2_with fail
      refine (Left_any g _ 0 w13 HRD4.out).mono ?_
      rintro e w14 ⟨rfl, rfl⟩
      rw [HDR.out]
      go_wp2
      go_ret
      exact ⟨by simp, HB13.out⟩
    · have hz1 : ¬ (E2 : Int) = 0 := by omega
      have hz2 : ((E2 : Int) != 0) = true := by rw [bne_iff_ne]; exact hz1
      clear hz
      go_wp2
      go_ret
      exact ⟨by simp, HB13.out⟩
end Go.Proofs.Ytlgcdddgahjknaa
end
section
namespace Go.Proofs.Ytlgcdddgahjknaa
open Go Go.RowKit
set_option linter.unusedVariables false
set_option linter.unusedSimpArgs false
section
variable (xs : List UInt8) (i : Nat)
theorem vecN_at (m : Nat) : vecN xs (i + m) = i + vecN (xs.drop i) m := by
  unfold vecN
  rw [List.drop_drop]
  split <;> omega
theorem posD_at (m j : Nat) : posD xs (i + m) j = i + posD (xs.drop i) m j := by
  induction j with
  | zero => rfl
  | succ j ih =>
    show vecN xs (posD xs (i + m) j) = i + vecN (xs.drop i) (posD (xs.drop i) m j)
    rw [ih, vecN_at]
theorem vecJ_at (m j : Nat) : vecJ xs (i + m) j = vecJ (xs.drop i) m j := by unfold vecJ; rw [posD_at, List.drop_drop]
theorem errD_at (m j : Nat) : errD xs (i + m) j = errD (xs.drop i) m j := by
  induction j with
  | zero => rfl
  | succ j ih =>
    show (if errD xs (i + m) j = 0 then errJ xs (i + m) j else errD xs (i + m) j) = (if errD (xs.drop i) m j = 0 then errJ (xs.drop i) m j else errD (xs.drop i) m j)
    have h : errJ xs (i + m) j = errJ (xs.drop i) m j := by unfold errJ; rw [posD_at, List.drop_drop]
    rw [ih, h]
theorem srcJ_at (m : Nat) : srcJ xs (i + m) = srcJ (xs.drop i) m := by
  unfold srcJ
  rw [List.getD_eq_getElem?_getD, List.getD_eq_getElem?_getD, List.getElem?_drop]
theorem tlP_at (m : Nat) : tlP xs (i + m) = i + tlP (xs.drop i) m := posD_at xs i m 3
theorem tlR_at (m : Nat) : tlR xs (i + m) = i + tlR (xs.drop i) m := by
  unfold tlR
  simp only [tlP_at xs i, srcJ_at xs i, Nat.add_assoc i, posD_at xs i]
  split <;> rfl
theorem tlF_at (m : Nat) : tlF xs (i + m) = tlF (xs.drop i) m := by
  unfold tlF
  simp only [vecJ_at xs i, tlP_at xs i, srcJ_at xs i, tlR_at xs i, Nat.add_assoc i]
theorem tkU_at : tkU xs i = tkU (xs.drop i) 0 := by
  unfold tkU
  rw [vecJ_at, vecJ_at, vecJ_at]
variable (hi : i ≤ xs.length)
include hi
theorem len_at (p : Nat) : xs.length ≤ i + p ↔ (xs.drop i).length ≤ p := by rw [List.length_drop]; omega
theorem tlE_at (m : Nat) : tlE xs (i + m) = tlE (xs.drop i) m := by
  unfold tlE
  simp only [tlF_at xs i, tlP_at xs i, tlR_at xs i, errD_at xs i, srcJ_at xs i, Nat.add_assoc i, len_at xs i hi]
theorem tlX_at (m : Nat) : tlX xs (i + m) = tlX (xs.drop i) m := by unfold tlX; rw [tlE_at xs i hi, tlF_at]
theorem tlN_at (m : Nat) : tlN xs (i + m) = i + tlN (xs.drop i) m := by unfold tlN; rw [tlE_at xs i hi, tlR_at, posD_at]; split <;> rfl
theorem tkE_at : tkE xs i = tkE (xs.drop i) 0 := by
  unfold tkE
  have h0 : srcJ xs i = srcJ (xs.drop i) 0 := srcJ_at xs i 0
  have h1 : xs.length ≤ i ↔ (xs.drop i).length ≤ 0 := len_at xs i hi 0
  rw [h0, tlE_at xs i hi, errD_at, vecJ_at, tkU_at xs i]
  simp only [h1]
theorem tkK_at : tkK xs i = tkK (xs.drop i) 0 := by unfold tkK; rw [tkE_at xs i hi, show srcJ xs i = srcJ (xs.drop i) 0 from srcJ_at xs i 0]
theorem tkL_at : tkL xs i = tkL (xs.drop i) 0 := by unfold tkL; rw [tkE_at xs i hi, tlX_at xs i hi, show srcJ xs i = srcJ (xs.drop i) 0 from srcJ_at xs i 0]
theorem tkP_at : tkP xs i = tkP (xs.drop i) 0 := by unfold tkP; rw [tkE_at xs i hi, tkU_at xs i, show srcJ xs i = srcJ (xs.drop i) 0 from srcJ_at xs i 0]
theorem tkN_at : tkN xs i = i + tkN (xs.drop i) 0 := by
  unfold tkN
  rw [tkE_at xs i hi, tlN_at xs i hi, posD_at, show srcJ xs i = srcJ (xs.drop i) 0 from srcJ_at xs i 0]
  split
  · split
    · omega
    · split <;> rfl
  · omega
end
theorem vecN_ge (xs : List UInt8) (i : Nat) : i ≤ vecN xs i := by unfold vecN; split <;> omega
theorem posD_ge (xs : List UInt8) (i j : Nat) : i ≤ posD xs i j := by
  induction j with
  | zero => exact Nat.le_refl _
  | succ j ih => exact Nat.le_trans ih (vecN_ge _ _)
theorem tk_up {xs : List UInt8} {i : Nat} (h : tkE xs i = 0) (hi : i < xs.length) : i < tkN xs i ∧ tkN xs i ≤ xs.length := by
  unfold tkN
  rw [if_pos h]
  split
  · omega
  · split
    · next h0 h1 =>
      have hE : tlE xs (i + 1) = 0 := by unfold tkE at h; rw [if_neg (by omega), if_neg h0, if_pos h1] at h; exact h
      have hl := tlN_at xs (i + 1) (by omega) 0
      rw [Nat.add_zero] at hl
      have h2 := tlE_at xs (i + 1) (by omega) 0
      rw [Nat.add_zero, hE] at h2
      have h3 := tlN_le (xs.drop (i + 1)) h2.symm
      rw [List.length_drop] at h3
      omega
    · exact ⟨posD_ge _ (i + 1) 3, posD_le (by omega) 3⟩
theorem tk_none {xs : List UInt8} {i : Nat} (h : tkE xs i ≠ 0) : tkK xs i = 0 ∧ tkL xs i = lf0 ∧ tkP xs i = pr0 := by
  unfold tkK tkL tkP
  rw [if_neg h, if_neg (fun h2 => h h2.1), if_neg (fun h2 => h h2.1)]
  exact ⟨rfl, rfl, rfl⟩
theorem take_end : tkE [] 0 = 4 := by decide
theorem PrF.put {w w' : World} {B base : Nat} {y : Pnt} {b : PA} (h : PrF w B base y b) (hb : Below w.heap.size w w') (hB : B ≤ w.heap.size) (_h : B ≤ B) : PrF w' B base y b :=
  ⟨h.1.below (hb.mono hB), h.2.1.below (hb.mono hB), (h.2.2.1.below hb).more hb.size, h.2.2.2⟩
/-- The block g of a reader changes: what lies below B or in newer memory stays. -/
theorem hpf_grown {w w' : World} {B base g : Nat} {y : Pnt} {b : PA} (h : PrF w B base y b) (hg : w.grownBy w' (some g)) (hB : B ≤ w.heap.size) (h1 : B ≤ g) (h2 : g < base) : PrIn w' y b := by
  have hb : Below B w w' := (Below.refl B w).grown hg hB (fun k e => by cases e; exact h1)
  refine ⟨(h.1.below hb).more (Nat.le_trans hB hg.size), (h.2.1.below hb).more (Nat.le_trans hB hg.size), fun hne => ?_⟩
  obtain ⟨p, o, hA, hlt, hc⟩ := h.2.2.1 hne
  obtain ⟨p2, o2, hA2, hge⟩ := h.2.2.2 hne
  rw [hA] at hA2
  injection hA2 with hA2
  injection hA2 with e1 _ _
  refine ⟨p, o, hA, Nat.lt_of_lt_of_le hlt hg.size, fun j u hu => ?_⟩
  exact (World.cell?_of_block (a := ⟨p, o + j, none⟩) (hg.block p hlt (by intro e; injection e with e; omega))).trans (hc j u hu)
set_option maxHeartbeats 4000000 in
theorem nodeRows_any (hT : NdTake) (hN : NdTakeNil) (hA : Alive16) (A : Option Addr) (xs : List UInt8) (c : Nat) (w : World) (hq : Sq w w.heap.size A c (bvs xs)) :
    Calls Try.prog 5 #[.slice A xs.length c] w (RetB w true) := by
  have HA := hid hA
  by_cases hlen : 1500 < xs.length
  · have hi : (xs.length : Int) > 1500 := by omega
    have hi2 : (1500 : Int) < (xs.length : Int) := by omega
    clear hlen
    go_enter Try.func5, Try.ntmps5
    go_wp2_with fail
    refine (HA.out _).mono ?_
    rintro e w1 ⟨rfl, hb⟩
    have HB := hid hb
    clear hb
    go_wp2
    go_ret
    exact ⟨rfl, HB.out⟩
  have hi : ¬ (xs.length : Int) > 1500 := by omega
  have hi2 : ¬ (1500 : Int) < (xs.length : Int) := by omega
  have HXL := hid (Nat.le_of_not_lt hlen)
  have HT1 : Hid (∀ i W, i ≤ xs.length → Below w.heap.size w W → Calls Try.prog 17 #[.slice A xs.length c, .int .i64 (i : Int)] W (TkOut W w.heap.size xs i)) := hid fun i W hi h => TakeN16_any A xs c i w.heap.size W (hq.below h) h.size (by omega) hi
  have HNR : Hid (∀ W, Below w.heap.size w W → Calls Try.prog 21 #[.slice A xs.length c] W fun e w' => ∃ g, e = .returned (.pointer (some ⟨g, 0, none⟩)) ∧ W.heap.size ≤ g ∧ Rd w' g xs 0 ∧ W.grownBy w' none) := hid fun W h => NewReader_any A xs c W w.heap.size ((hq.below h).lie) (by omega)
  have HTK : Hid (∀ i g W, i ≤ xs.length → Rd W g (xs.drop i) 0 → Calls Try.prog 25 #[.pointer (some ⟨g, 0, none⟩)] W fun e w' => ∃ a p, e = .returned (.tuple #[.agg (ndV (tkK xs i) (tkL xs i) a (tkP xs i) p), .int .u8 (tkE xs i : Int)]) ∧ LfIn w' (tkL xs i) a ∧ PrIn w' (tkP xs i) p ∧ (tkE xs i = 0 → Rd w' g (xs.drop (tkN xs i)) 0) ∧ W.grownBy w' (some g)) := hid fun i g W hi hr => by
    have h := hT g (xs.drop i) W hr (by rw [List.length_drop]; omega)
    rw [tkK_at xs i hi, tkL_at xs i hi, tkP_at xs i hi, tkE_at xs i hi, tkN_at xs i hi, ← List.drop_drop]
    exact h
  have HTE : Hid (∀ g W, Rd W g [] 0 → _) := hid fun g W h => hT g [] W h (by decide)
  have HTN := hid hN
  have hbuild := build_nd
  clear hq hlen hT hN
  go_enter Try.func5, Try.ntmps5
  go_wp2_with fail
  refine (HA.out _).mono ?_
  rintro e w1 ⟨rfl, hb⟩
  have HB1 := hid hb
  clear hb HA hA
  go_wp2_with fail
  refine (HNR.out _ HB1.out).mono ?_
  rintro e w2 ⟨g, rfl, hg, hrd, hgr⟩
  have HB2 := hid (HB1.out.grown hgr HB1.out.size (fun k e => by cases e))
  have HRD := hid hrd
  have HG : Hid (w.heap.size ≤ g) := hid (Nat.le_trans HB1.out.size hg)
  clear hg hrd hgr HB1 HNR
  go_wp2
  go_loopg [4] xs.length (fun r i wr => ∃ at' : Nat, at' + r = xs.length ∧ i = .int .i64 (at' : Int) ∧ Rd wr g (xs.drop at') 0 ∧ Below w.heap.size w wr)
  case atStart => exact ⟨0, by omega, rfl, by rw [List.drop_zero]; exact HRD.out, HB2.out⟩
  case round =>
    clear HRD HB2
    obtain ⟨i, hj, rfl, hrd, hb⟩ := hrel
    have HRD := hid hrd; have HB := hid hb; have HJ := hid hj
    clear hrd hb hj
    by_cases hlt : i < xs.length
    · have hli : (i : Int) < (xs.length : Int) := by omega
      have HT2 := hid (HT1.out i wr (by omega) HB.out)
      have HTK2 := hid (fun W h => HTK.out i g W (by omega) h)
      have hle1 := tkL_le xs i (by have := HXL.out; omega); have hle2 := tkP_le xs i (by have := HXL.out; omega)
      have hup := fun h => tk_up (xs := xs) (i := i) h hlt
      have hno := fun h => tk_none (xs := xs) (i := i) h
      have hw := tkE_lt xs i
      unfold TkOut at HT2
      obtain ⟨K0, hK0⟩ : ∃ t, t = tkK xs i := ⟨_, rfl⟩
      obtain ⟨L0, hL0⟩ : ∃ t, t = tkL xs i := ⟨_, rfl⟩
      obtain ⟨P0, hP0⟩ : ∃ t, t = tkP xs i := ⟨_, rfl⟩
      obtain ⟨E0, hE0⟩ : ∃ t, t = tkE xs i := ⟨_, rfl⟩
      obtain ⟨N0, hN0⟩ : ∃ t, t = tkN xs i := ⟨_, rfl⟩
      simp only [← hK0, ← hL0, ← hP0, ← hE0, ← hN0] at HT2 HTK2
      rw [← hL0] at hle1
      rw [← hP0] at hle2
      rw [← hE0] at hw
      rw [← hE0, ← hN0] at hup
      rw [← hK0, ← hL0, ← hP0, ← hE0] at hno
      have hw0 : wrap64 (E0 : Int) = (E0 : Int) := wrap64_in' (by omega) (by omega)
      have HLE1 := hid hle1; have HLE2 := hid hle2; have HUP := hid hup; have HNO := hid hno; have HLT := hid hlt
      clear hK0 hL0 hP0 hE0 hN0 hle1 hle2 hup hno hw hlt
      go_wp2_with fail
      refine HT2.out.mono ?_
      rintro e w2 ⟨a0, p0, rfl, hl, hp, hb⟩
      have HB2 := hid (HB.out.trans (hb.mono HB.out.size))
      have K3 := hid (setRow_heap (w2.alloc (.cells ndZ NdT)) w2.heap.size ndZ (ndV K0 L0 a0 P0 p0) NdT (0, 0) (heap_alloc_new w2 _))
      have HBn : Hid (Below w2.heap.size w2 ((w2.alloc (.cells ndZ NdT)).setRow w2.heap.size (ndV K0 L0 a0 P0 p0))) := hid (((Below.refl _ _).alloc (Nat.le_refl _) _).trans (below_put _ _ _ (Nat.le_refl _)))
      have HL3 := hid (hl.on (HBn.out.mono HB2.out.size)); have HP3 := hid (hp.put HBn.out HB2.out.size (Nat.le_refl _))
      have HB3 := hid (HB2.out.trans (HBn.out.mono HB2.out.size))
      have HRD3 := hid (rd_below (rd_below HRD.out hb) HBn.out)
      have HGL : Hid (g < wr.heap.size) := hid HRD.out.lt
      have HWR : Hid (wr.heap.size ≤ w2.heap.size) := hid hb.size
      have KZ := heap_alloc_new w2 (.cells ndZ NdT)
      clear hl hp hb HB HB2 HBn HRD HT2
      go_wp2_with (with_reducible refine wpList_store_row rfl NdT (.tmp 5) _ rfl w2.heap.size (ndV K0 L0 a0 P0 p0) rfl rfl NdT ndZ KZ infoNd16 ndZ_size ndV_one ?_)
      refine (HTK2.out _ HRD3.out).mono ?_
      rintro e w4 ⟨a1, p1, rfl, hl, hp, hrd, hgr⟩
      generalize (w2.alloc (Obj.cells ndZ NdT)).setRow w2.heap.size (ndV K0 L0 a0 P0 p0) = w3 at K3 HL3 HP3 HB3 HRD3 hgr ⊢
      have HB4 := hid (HB3.out.grown hgr HB3.out.size (fun k e => by cases e; exact HG.out))
      have K34 := hid (block_grown K3.out hgr (by intro e; injection e with e; have := HGL.out; have := HWR.out; omega))
      have HL34 := hid (HL3.out.on (Below.grown (Below.refl w.heap.size w3) hgr HB3.out.size (fun k e => by cases e; exact HG.out)))
      have HP34 := hid (hpf_grown HP3.out hgr HB3.out.size HG.out HGL.out)
      have K6 := hid (setRow_heap (w4.alloc (.cells ndZ NdT)) w4.heap.size ndZ (ndV K0 L0 a1 P0 p1) NdT (0, 0) (heap_alloc_new w4 _))
      have HBn : Hid (Below w4.heap.size w4 ((w4.alloc (.cells ndZ NdT)).setRow w4.heap.size (ndV K0 L0 a1 P0 p1))) := hid (((Below.refl _ _).alloc (Nat.le_refl _) _).trans (below_put _ _ _ (Nat.le_refl _)))
      have HL6 := hid (hl.on HBn.out); have HP6 := hid (hp.on HBn.out)
      have K35 := hid ((HBn.out.block _ (block_lt K34.out)).trans K34.out)
      have HL35 := hid ((HL34.out.in_ HB4.out.size).on HBn.out); have HP35 := hid (HP34.out.on HBn.out)
      have HB6 := hid (HB4.out.trans (HBn.out.mono HB4.out.size))
      have HRD6 : Hid (E0 = 0 → Rd ((w4.alloc (.cells ndZ NdT)).setRow w4.heap.size (ndV K0 L0 a1 P0 p1)) g (xs.drop N0) 0) := hid fun h => rd_below (hrd h) HBn.out
      have KZ6 := heap_alloc_new w4 (.cells ndZ NdT)
      obtain ⟨q0, q1, q2, q3, q4, q5, q6, q7, q8, q9⟩ := nd_cells K6.out
      obtain ⟨s0, s1, s2, s3, s4, s5, s6, s7, s8, s9⟩ := nd_cells K35.out
      clear hl hp hrd hgr KZ HBn HB3 HL3 HP3 K3 HB4 K34 HL34 HP34 HRD3 HTK2
      by_cases hz : E0 = 0
      · have hup := HUP.out hz
        have HUU := hid hup
        have hz1 : (E0 : Int) = 0 := by omega
        subst hz
        clear hz1 hup
        have HRD7 := hid (HRD6.out rfl)
        clear HRD6
        go_wp2_with (with_reducible refine wpList_store_row rfl NdT (.tmp 8) _ rfl w4.heap.size (ndV K0 L0 a1 P0 p1) rfl rfl NdT ndZ KZ6 infoNd16 ndZ_size ndV_one ?_)
        refine (Same16_any K0 L0 a1 P0 p1 K0 L0 a0 P0 p0 _ HL6.out HL35.out HP6.out HP35.out HLE1.out HLE2.out).mono ?_
        rintro e w7 ⟨rfl, hb⟩
        rw [sameNd_self]
        have HB7 := hid (HB6.out.trans (hb.mono HB6.out.size)); have HRD8 := hid (rd_below HRD7.out hb)
        clear hb HB6 K6 K35 HL6 HP6 HL35 HP35 HRD7 q0 q1 q2 q3 q4 q5 q6 q7 q8 q9 s0 s1 s2 s3 s4 s5 s6 s7 s8 s9 KZ6
        have hdr : ((xs.drop N0).length : Int) = (xs.length : Int) - (N0 : Int) := by rw [List.length_drop]; have := HUU.out; omega
        have hwr : wrap64 ((xs.length : Int) - (N0 : Int)) = (xs.length : Int) - (N0 : Int) := wrap64_in' (by have := HUU.out; omega) (by have := HXL.out; omega)
        have HDR := hid hdr
        clear hdr
        go_wp2_with fail
        refine (Left_any g _ 0 w7 HRD8.out).mono ?_
        rintro e w8 ⟨rfl, rfl⟩
        rw [HDR.out]
        go_wp2
        go_roundg (xs.length - N0)
        case measure => have := HUU.out; have := HJ.out; clear hwr; omega
        case rel => exact ⟨N0, by have := HUU.out; clear hwr; omega, rfl, HRD8.out, HB7.out⟩
      · have hz1 : ¬ (E0 : Int) = 0 := by omega
        have hz2 : ((E0 : Int) != 0) = true := by rw [bne_iff_ne]; exact hz1
        obtain ⟨n1, n2, n3⟩ := HNO.out hz
        subst n1; subst n2; subst n3
        clear hz
        go_wp2_with (first | (with_reducible refine wpList_store_row rfl NdT (.tmp 8) _ rfl w4.heap.size (ndV 0 lf0 a1 pr0 p1) rfl rfl NdT ndZ KZ6 infoNd16 ndZ_size ndV_one ?_))
        refine (Same16_any 0 lf0 a1 pr0 p1 0 lf0 la0 pr0 pa0 _ HL6.out (lf0_in _) HP6.out (pr0_in _) lf0_le pr0_le).mono ?_
        rintro e w7 ⟨rfl, hb⟩
        rw [sameNd_self]
        have HB7 := hid (HB6.out.trans (hb.mono HB6.out.size))
        clear hb
        go_wp2
        go_ret
        exact ⟨rfl, HB7.out⟩
    · have hli : ¬ (i : Int) < (xs.length : Int) := by omega
      have hie : xs.drop i = [] := List.drop_eq_nil_of_le (by omega)
      rw [hie] at HRD
      clear hie hlt
      go_wp2_with fail
      refine (HTN.out _).mono ?_
      rintro e w4 ⟨a1, p1, rfl, hl, hp, hb⟩
      have HB4 := hid (HB.out.trans (hb.mono HB.out.size))
      have HRD4 := hid (rd_below HRD.out hb)
      have KZ4 := heap_alloc_new w4 (.cells ndZ NdT)
      have HBn : Hid (Below w4.heap.size w4 ((w4.alloc (.cells ndZ NdT)).setRow w4.heap.size (ndV 0 lf0 a1 pr0 p1))) := hid (((Below.refl _ _).alloc (Nat.le_refl _) _).trans (below_put _ _ _ (Nat.le_refl _)))
      have HB5 := hid (HB4.out.trans (HBn.out.mono HB4.out.size)); have HRD5 := hid (rd_below HRD4.out HBn.out)
      clear hl hp hb HB HRD HB4 HRD4 HBn
      go_wp2_with (with_reducible refine wpList_store_row rfl NdT (.tmp 10) _ rfl w4.heap.size (ndV 0 lf0 a1 pr0 p1) rfl rfl NdT ndZ KZ4 infoNd16 ndZ_size ndV_one ?_)
      refine (HTE.out g _ HRD5.out).mono ?_
      rintro e w6 ⟨a2, p2, rfl, hl, hp, hrd, hgr⟩
      have HB6 := hid (HB5.out.grown hgr HB5.out.size (fun k e => by cases e; exact HG.out))
      have KZ6 := heap_alloc_new w6 (.cells ndZ NdT)
      have HBn : Hid (Below w6.heap.size w6 ((w6.alloc (.cells ndZ NdT)).setRow w6.heap.size (ndV (tkK [] 0) (tkL [] 0) a2 (tkP [] 0) p2))) := hid (((Below.refl _ _).alloc (Nat.le_refl _) _).trans (below_put _ _ _ (Nat.le_refl _)))
      have HB7 := hid (HB6.out.trans (HBn.out.mono HB6.out.size))
      rw [take_end]
      clear hl hp hrd hgr HB5 HRD5 HB6 HBn KZ4
      go_wp2_with (with_reducible refine wpList_store_row rfl NdT (.tmp 12) _ rfl w6.heap.size (ndV (tkK [] 0) (tkL [] 0) a2 (tkP [] 0) p2) rfl rfl NdT ndZ KZ6 infoNd16 ndZ_size ndV_one ?_)
      go_ret
      exact ⟨by simp, HB7.out⟩
end Go.Proofs.Ytlgcdddgahjknaa
end
