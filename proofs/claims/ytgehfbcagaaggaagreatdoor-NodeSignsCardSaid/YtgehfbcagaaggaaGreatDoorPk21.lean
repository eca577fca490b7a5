/-
  Texts of this claim in one file: Law16s, Law16a, Law16t, Law16u, Law16v, Law16d.
-/
import Derived.Test.YtgehfbcagaaggaaGreatDoorPk5
import Derived.Test.YtgehfbcagaaggaaGreatDoorPk8
import Derived.Test.YtgehfbcagaaggaaGreatDoorPk6
import Derived.Deep.OwnRows
section
namespace Go.Proofs.YtgehfbcagaaggaaGreatDoor
open Go Go.RowKit
set_option linter.unusedVariables false
set_option linter.unusedSimpArgs false
def sig0 : List UInt8 := List.replicate 64 0
def withSig (x : Lf) (s : List UInt8) : Lf := ⟨x.box, x.sign, x.ident, x.src, x.par, s⟩
def at16 (x : Lf) (at' : Int) : Bool := decide (x.src = 1) || (decide (0 ≤ at') && decide (at' ≤ 65535))
def tbs (x : Lf) (group : List UInt8) (at' : Int) : List UInt8 := textB (sby labS) (textL x group at')
def signE (x : Lf) (seed : List UInt8) (at' : Int) : Nat := if leafB (withSig x sig0) = false then 3 else if at16 x at' = false ∨ seed.length ≠ 32 then 1 else 0
def signL (x : Lf) (seed group : List UInt8) (at' : Int) : Lf := if signE x seed at' = 0 then withSig x (sigB seed (tbs x group at')) else lf0
noncomputable def chkB (x : Lf) (group : List UInt8) (at' : Int) : Bool := leafB x && at16 x at' && holdsB x.sign (tbs x group at') x.sig
/-- A leaf that lies, capacities and all. -/
def LfS (w : World) (x : Lf) (a : LA) : Prop := Sq w w.heap.size a.a0 a.c0 (bvs x.box) ∧ Sq w w.heap.size a.a1 a.c1 (bvs x.sign) ∧ Sq w w.heap.size a.a2 a.c2 (bvs x.ident) ∧ Sq w w.heap.size a.a3 a.c3 (bvs x.par) ∧ Sq w w.heap.size a.a4 a.c4 (bvs x.sig)
theorem LfS.in_ {w : World} {x : Lf} {a : LA} (h : LfS w x a) : LfIn w x a := ⟨h.1.lie, h.2.1.lie, h.2.2.1.lie, h.2.2.2.1.lie, h.2.2.2.2.lie⟩
theorem sq_up {w w' : World} {A : Option Addr} {c : Nat} {xs : List Value} (h : Sq w w.heap.size A c xs) (hb : Below w.heap.size w w') : Sq w' w'.heap.size A c xs := (h.below hb).more hb.size
theorem LfS.on {w w' : World} {x : Lf} {a : LA} (h : LfS w x a) (hb : Below w.heap.size w w') : LfS w' x a := ⟨sq_up h.1 hb, sq_up h.2.1 hb, sq_up h.2.2.1 hb, sq_up h.2.2.2.1 hb, sq_up h.2.2.2.2 hb⟩
def LeafE (W : World) (x : Lf) (er : Nat) (e : Ending) (w' : World) : Prop := ∃ a, e = .returned (.tuple #[.agg (lfV x a), .int .u8 (er : Int)]) ∧ LfS w' x a ∧ Below W.heap.size W w'
def I64s (x : Int) : Prop := -9223372036854775808 ≤ x ∧ x ≤ 9223372036854775807
def NdSignLeaf : Prop := ∀ x a A seed c A' group c' at' (W : World), GlobL W → LfS W x a → Lf200 x → Sq W W.heap.size A c (bvs seed) → Sq W W.heap.size A' c' (bvs group) → seed.length ≤ 100 → group.length ≤ 100 → I64s at' → Calls Tryz.prog 8 #[.agg (lfV x a), .slice A seed.length c, .slice A' group.length c', .int .i64 at'] W (LeafE W (signL x seed group at') (signE x seed at'))
def NdCheckLeaf : Prop := ∀ x a A' group c' at' (W : World), GlobL W → LfS W x a → Lf200 x → Sq W W.heap.size A' c' (bvs group) → group.length ≤ 100 → I64s at' → Calls Tryz.prog 15 #[.agg (lfV x a), .slice A' group.length c', .int .i64 at'] W (RetB W (chkB x group at'))
def SgnPublic : Prop := ∀ A xs c (W : World), GlobL W → Sq W W.heap.size A c (bvs xs) → xs.length ≤ 1000 → Calls Tryz.prog 13 #[.slice A xs.length c] W (SgR W (if xs.length = 32 then some (pubB xs) else none))
def SgnLabel : Prop := ∀ A xs c A' ys c' (W : World), GlobL W → Sq W W.heap.size A c (bvs xs) → Sq W W.heap.size A' c' (bvs ys) → xs.length ≤ 500 → ys.length ≤ 500 → Calls Tryz.prog 11 #[.slice A xs.length c, .string labS, .slice A' ys.length c'] W (SgR W (if xs.length = 32 then some (sigB xs (textB (sby labS) ys)) else none))
def SgnCheck : Prop := ∀ A xs c A' ys c' A'' zs c'' (W : World), GlobL W → Sq W W.heap.size A c (bvs xs) → Sq W W.heap.size A' c' (bvs ys) → Sq W W.heap.size A'' c'' (bvs zs) → xs.length ≤ 500 → ys.length ≤ 500 → zs.length ≤ 500 → Calls Tryz.prog 16 #[.slice A xs.length c, .string labS, .slice A' ys.length c', .slice A'' zs.length c''] W fun e w' => e = .returned (.bool (holdsB xs (textB (sby labS) ys) zs)) ∧ Below W.heap.size W w'
theorem tbs_sig (x : Lf) (s group : List UInt8) (at' : Int) : tbs (withSig x s) group at' = tbs x group at' := rfl
theorem leaf_sig {x : Lf} {s : List UInt8} (h : leafB (withSig x sig0) = true) (hs : s.length = 64) : leafB (withSig x s) = true := by
  have h0 : leafB (withSig x s) = leafB (withSig x sig0) := by
    unfold leafB withSig
    rw [show sig0.length = 64 by decide]
    simp only [hs]
  rw [h0]; exact h
/-- What is signed is checked. -/
theorem sign_check (x : Lf) (seed group : List UInt8) (at' : Int) (h : signE x seed at' = 0) (hk : x.sign = pubB seed) : chkB (signL x seed group at') group at' = true := by
  unfold signL
  rw [if_pos h]
  unfold signE at h
  split at h
  · cases h
  · next h1 =>
    split at h
    · cases h
    · next h2 =>
      have h3 : leafB (withSig x sig0) = true := by cases hb : leafB (withSig x sig0) <;> simp_all
      have h4 : at16 x at' = true := by cases hb : at16 x at' <;> simp_all
      unfold chkB
      rw [leaf_sig h3 (sigB_length _ _), show at16 (withSig x (sigB seed (tbs x group at'))) at' = at16 x at' from rfl, h4, tbs_sig]
      show (true && true && holdsB x.sign (tbs x group at') (sigB seed (tbs x group at'))) = true
      rw [hk, holds_sig]
      rfl
end Go.Proofs.YtgehfbcagaaggaaGreatDoor
end
section
namespace Go.Proofs.YtgehfbcagaaggaaGreatDoor
open Go Go.RowKit
set_option linter.unusedVariables false
set_option linter.unusedSimpArgs false
/-- Bytes and an error; a node and an error; a leaf and an error. -/
def BysE (W : World) (xs : List UInt8) (er : Nat) (e : Ending) (w' : World) : Prop := ∃ A c, e = .returned (.tuple #[.slice A xs.length c, .int .u8 (er : Int)]) ∧ Sq w' w'.heap.size A c (bvs xs) ∧ Below W.heap.size W w'
def NodeE (W : World) (k : Nat) (x : Lf) (u : Pnt) (er : Nat) (e : Ending) (w' : World) : Prop := ∃ a p, e = .returned (.tuple #[.agg (ndV k x a u p), .int .u8 (er : Int)]) ∧ LfIn w' x a ∧ PrIn w' u p ∧ Below W.heap.size W w'
def nbX (k : Nat) (x : Lf) (u : Pnt) : List UInt8 := if rightB k x u = true then nodeBy k x u else []
def nbE (k : Nat) (x : Lf) (u : Pnt) : Nat := if rightB k x u = true then 0 else 3
def Late64 (u : Pnt) : Prop := ∀ v ∈ u.late, -9223372036854775808 ≤ v ∧ v ≤ 9223372036854775807
/-- Lengths that a walk can bear. -/
def LfM (x : Lf) : Prop := x.box.length ≤ 1000000 ∧ x.sign.length ≤ 1000000 ∧ x.ident.length ≤ 1000000 ∧ x.par.length ≤ 1000000 ∧ x.sig.length ≤ 1000000 ∧ x.src < 256
def PrM (u : Pnt) : Prop := u.box.length ≤ 1000000 ∧ u.hash.length ≤ 1000000 ∧ u.late.length ≤ 1000000
def Ok16 (W : World) (k : Nat) (x : Lf) (a : LA) (u : Pnt) (p : PA) : Prop := LfIn W x a ∧ PrIn W u p ∧ LfM x ∧ PrM u ∧ k < 256 ∧ Late64 u
theorem Ok16.on {W W' : World} {k : Nat} {x : Lf} {a : LA} {u : Pnt} {p : PA} (h : Ok16 W k x a u p) (hb : Below W.heap.size W W') : Ok16 W' k x a u p := ⟨h.1.on hb, h.2.1.on hb, h.2.2⟩
def NdBytes : Prop := ∀ k x a u p (W : World), Ok16 W k x a u p → Calls Tryz.prog 17 #[.agg (ndV k x a u p)] W (BysE W (nbX k x u) (nbE k x u))
/-- A copy in memory of its own. -/
def LfOwn (W w' : World) (x : Lf) (a : LA) : Prop := OwnB w' W.heap.size (.slice a.a0 x.box.length a.c0) x.box ∧ OwnB w' W.heap.size (.slice a.a1 x.sign.length a.c1) x.sign ∧ OwnB w' W.heap.size (.slice a.a2 x.ident.length a.c2) x.ident ∧ OwnB w' W.heap.size (.slice a.a3 x.par.length a.c3) x.par ∧ OwnB w' W.heap.size (.slice a.a4 x.sig.length a.c4) x.sig
theorem ok16_none (W : World) : Ok16 W 0 lf0 la0 pr0 pa0 := ⟨lf0_in W, pr0_in W, by unfold LfM; decide, by unfold PrM; decide, by decide, fun v h => by cases h⟩
theorem ex_b : nbX 0 lf0 pr0 = [0] ∧ nbE 0 lf0 pr0 = 0 := by decide
def Alive16 : Prop := ∀ W : World, Calls Tryz.prog 6 #[] W (RetB W true)
set_option maxRecDepth 100000 in
set_option maxHeartbeats 1000000 in
theorem alive16_core (hB : ∀ W : World, Calls Tryz.prog 17 #[.agg (ndV 0 lf0 la0 pr0 pa0)] W (BysE W [0] 0)) (hO : ∀ A c (W : World), Sq W W.heap.size A c (bvs [3]) → Calls Tryz.prog 18 #[.slice A 1 c] W (NodeE W 0 lf0 pr0 3)) : Alive16 := fun w => by
  have HB := hid hB
  have HO := hid hO
  have hbuild := build_nd
  clear hB hO
  go_enter Tryz.func6, Tryz.ntmps6
  go_wp2_with fail
  refine (HB.out _).mono ?_
  rintro e w1 ⟨A1, c1, rfl, hs, hb⟩
  have HS1 := hid hs; have HB1 := hid hb
  clear hs hb HB
  have hl3 := (Lie.new1 w1 (.int .u8 3) 5)
  have HQ3 : Hid (Sq (w1.alloc (.cells #[.int .u8 3] 5)) (w1.alloc (.cells #[.int .u8 3] 5)).heap.size (some ⟨w1.heap.size, 0, none⟩) 1 (bvs [3])) := hid (Lie.sq (by have h := hl3; rw [show (w1.alloc (.cells #[.int .u8 3] 5)).heap.size = w1.heap.size + 1 by simp]; exact h) (by decide) (by decide))
  clear hl3
  obtain ⟨b1, o1, rfl, -, hby⟩ := sq_at HS1.out (by decide)
  have hB1 := hby 0 (by decide)
  have GB1 : Hid (b1 < w1.heap.size) := hid (by rcases Nat.lt_or_ge b1 w1.heap.size with h | h; exact h; exfalso; have hn : w1.heap[b1]? = none := Array.getElem?_eq_none h; unfold World.cell? at hB1; rw [show (⟨b1, o1 + 0, none⟩ : Addr).block = b1 from rfl, hn] at hB1; cases hB1)
  have HC1 := hid hB1
  clear hby hB1
  go_wp2_with fail
  refine (HO.out _ _ _ HQ3.out).mono ?_
  rintro e w2 ⟨a, p, rfl, -, -, hb⟩
  have HB2 := hid ((HB1.out.alloc HB1.out.size (.cells #[.int .u8 3] 5)).trans (hb.mono (by have := HB1.out.size; simp; omega)))
  have K2 := hid (heap_alloc_new w2 (.cells ndZ NdT))
  have hc : ((w2.alloc (.cells ndZ NdT)).setRow w2.heap.size (ndV 0 lf0 a pr0 p)).cell? ⟨b1, o1 + 0, none⟩ = some (.int .u8 0) := by
    have hlt : b1 < w2.heap.size := Nat.lt_of_lt_of_le (Nat.lt_of_lt_of_le GB1.out (by simp)) hb.size
    rw [put_far _ _ (show b1 ≠ w2.heap.size by omega)]
    refine (Below.cell ((Below.refl w2.heap.size w2).alloc (Nat.le_refl _) (.cells ndZ NdT)) (p := ⟨b1, o1 + 0, none⟩) hlt).trans ?_
    refine (hb.cell (p := ⟨b1, o1 + 0, none⟩) (by simp; exact Nat.lt_succ_of_lt GB1.out)).trans ?_
    exact (Below.cell ((Below.refl w1.heap.size w1).alloc (Nat.le_refl _) (.cells #[.int .u8 3] 5)) (p := ⟨b1, o1 + 0, none⟩) GB1.out).trans HC1.out
  rw [Nat.add_zero] at hc
  have HB3 := hid ((HB2.out.alloc HB2.out.size (.cells ndZ NdT)).trans (below_put (w2.alloc (.cells ndZ NdT)) w2.heap.size (ndV 0 lf0 a pr0 p) HB2.out.size))
  clear hb HB1 HB2 HS1 HQ3 HO
  go_wp2_with (with_reducible refine wpList_store_row rfl NdT (.tmp 3) _ rfl w2.heap.size (ndV 0 lf0 a pr0 p) rfl rfl NdT ndZ K2.out infoNd16 ndZ_size ndV_one ?_)
  go_ret
  exact ⟨rfl, HB3.out⟩
end Go.Proofs.YtgehfbcagaaggaaGreatDoor
end
section
namespace Go.Proofs.YtgehfbcagaaggaaGreatDoor
open Go Go.RowKit
set_option linter.unusedVariables false
set_option linter.unusedSimpArgs false
theorem small_lf {x : Lf} (h : smallB x pr0 = true) (hs : x.src < 256) : Lf200 x := by
  unfold smallB smallN at h
  simp only [Bool.and_eq_true, decide_eq_true_eq] at h
  obtain ⟨⟨⟨⟨⟨⟨⟨h0, h1⟩, h2⟩, h3⟩, h4⟩, h5⟩, h6⟩, h7⟩ := h
  exact ⟨h0, h1, h2, h3, h4, hs⟩
theorem leaf_text {x : Lf} {gs : List UInt8} {at' : Int} (h : leafB x = true) (hg : gs.length ≤ 100) : (textL x gs at').length ≤ 500 := by
  unfold leafB leafN at h
  simp only [Bool.and_eq_true, Bool.or_eq_true, decide_eq_true_eq] at h
  obtain ⟨⟨⟨⟨⟨⟨⟨h0, h1⟩, h2⟩, h3⟩, h4⟩, h5⟩, h6⟩, h7⟩ := h
  have v : ∀ ys : List UInt8, (vecBytes ys).length ≤ 4 + ys.length := fun ys => by
    unfold vecBytes
    rw [List.length_append, lenBytes_length]
    have := (lenSize_le ys.length).2
    omega
  have a0 := v x.box; have a1 := v x.sign; have a2 := v x.ident; have a3 := v x.par; have a4 := v gs
  have hp : x.par.length ≤ 32 := by omega
  have hA : (aheadB x).length ≤ 300 := by
    unfold aheadB
    simp only [List.length_append, List.length_cons, List.length_nil]
    split
    · omega
    · simp only [List.length_nil]; omega
  unfold textL
  split
  · omega
  · simp only [List.length_append, beBytes_length]; omega
theorem build_nl (x : Lf) (a : LA) (W : World) : (Instr.build NdT #[(1, .agg (lfV x a))]).run Tryz.prog W = .ok (.agg (ndV 0 x a pr0 pa0)) W := run_build W NdT _ _ (by kernel_rfl)
set_option maxRecDepth 100000 in
set_option maxHeartbeats 4000000 in
theorem nodeChecks_any (hC : NdCheckLeaf) (hS : SgnCheck) (hA : Alive16) (x : Lf) (a : LA) (A : Option Addr) (gs : List UInt8) (c : Nat) (at' : Int) (w : World) (hG : GlobL w) (hx : LfS w x a) (hs : x.src < 256) (hq : Sq w w.heap.size A c (bvs gs)) (hat : I64s at') :
    Calls Tryz.prog 4 #[.agg (lfV x a), .slice A gs.length c, .int .i64 at'] w (RetB w true) := by
  have HA := hid hA
  have HSM := hid (fun W => Small16_any 0 x a pr0 pa0 W)
  obtain ⟨W0, hW0⟩ : ∃ W, W = w.alloc (.cells (lfV x a) LfT) := ⟨_, rfl⟩
  have HB0 : Hid (Below w.heap.size w W0) := hid (by rw [hW0]; exact (Below.refl _ _).alloc (Nat.le_refl _) _)
  have K0 : Hid (W0.heap[w.heap.size]? = some (.cells (lfV x a) LfT (0, 0))) := hid (by rw [hW0]; exact heap_alloc_new w _)
  have HX := hid (hx.on HB0.out); have HQ := hid ((hq.below HB0.out).more HB0.out.size)
  have HGL : Hid (∀ W, Below W0.heap.size W0 W → GlobL W) := hid fun W h => hG.below (HB0.out.trans (h.mono HB0.out.size)) (Nat.le_refl _)
  have HK0 := hid hW0
  have hbl := build_nl x a
  clear hA hx hq hW0 hG
  go_enter Tryz.func4, Tryz.ntmps4
  go_wp2_with fail
  rw [← HK0.out]
  refine (HA.out _).mono ?_
  rintro e w1 ⟨rfl, hb⟩
  have HB1 := hid hb
  have K1 := hid ((hb.block _ (block_lt K0.out)).trans K0.out)
  clear hb
  go_wp2_with (with_reducible refine wpList_load_row rfl LfT (.tmp 3) rfl w.heap.size rfl LfT (lfV x a) (0, 0) _ K1.out Tryz.underlying24 rfl infoLf ?_)
  refine (HSM.out _).mono ?_
  rintro e w2 ⟨rfl, hb⟩
  have HB2 := hid (HB1.out.trans (hb.mono HB1.out.size))
  clear hb HB1 K1
  obtain ⟨sm, hsm⟩ : ∃ s, s = smallB x pr0 := ⟨_, rfl⟩
  rw [← hsm]
  cases sm with
  | false =>
    clear hsm
    go_wp2
    go_ret
    exact ⟨rfl, HB0.out.trans (HB2.out.mono HB0.out.size)⟩
  | true =>
    have hl2 := small_lf hsm.symm hs
    clear hsm
    by_cases hgl : 100 < gs.length
    · have hi : (gs.length : Int) > 100 := by omega
      have hi2 : (100 : Int) < (gs.length : Int) := by omega
      go_wp2
      go_ret
      exact ⟨rfl, HB0.out.trans (HB2.out.mono HB0.out.size)⟩
    have hi : ¬ (gs.length : Int) > 100 := by omega
    have hi2 : ¬ (100 : Int) < (gs.length : Int) := by omega
    have HCK : Hid (∀ W, Below W0.heap.size W0 W → Calls Tryz.prog 15 #[.agg (lfV x a), .slice A gs.length c, .int .i64 at'] W (RetB W (chkB x gs at'))) := hid fun W h => hC x a A gs c at' W (HGL.out W h) (HX.out.on h) hl2 ((HQ.out.below h).more h.size) (by omega) hat
    have HRL := hid (fun W => RightLeaf16_any x a W hs)
    have HTX : Hid ((x.src = 1 ∨ (0 ≤ at' ∧ at' ≤ 65535)) → ∀ W, Below W0.heap.size W0 W → Calls Tryz.prog 12 #[.agg (lfV x a), .slice A gs.length c, .int .i64 at'] W (RetQ W (textL x gs at'))) := hid fun ha W h => Text16_any x a A gs c at' W (HX.out.on h).in_ hl2 ((HQ.out.below h).more h.size).lie (by omega) ha
    have HCH : Hid (leafB x = true → ∀ AT cT W, Below W0.heap.size W0 W → Sq W W.heap.size AT cT (bvs (textL x gs at')) → Calls Tryz.prog 16 #[.slice a.a1 x.sign.length a.c1, .string labS, .slice AT (textL x gs at').length cT, .slice a.a4 x.sig.length a.c4] W fun e w' => e = .returned (.bool (holdsB x.sign (tbs x gs at') x.sig)) ∧ Below W.heap.size W w') := hid fun hlf AT cT W h h2 => hS a.a1 x.sign a.c1 AT (textL x gs at') cT a.a4 x.sig a.c4 W (HGL.out W h) (HX.out.on h).2.1 h2 (HX.out.on h).2.2.2.2 (by have := hl2.2.1; omega) (leaf_text hlf (by omega)) (by have := hl2.2.2.2.2.1; omega)
    have hck : leafB x = true → at16 x at' = true → chkB x gs at' = holdsB x.sign (tbs x gs at') x.sig := fun h1 h2 => by unfold chkB; rw [h1, h2]; rfl
    have hcn : leafB x = false ∨ at16 x at' = false → chkB x gs at' = false := fun h => by unfold chkB; rcases h with h | h <;> rw [h] <;> simp
    have ha16 : at16 x at' = (decide (x.src = 1) || (decide (0 ≤ at') && decide (at' ≤ 65535))) := rfl
    obtain ⟨lb, hlb⟩ : ∃ s, s = leafB x := ⟨_, rfl⟩
    obtain ⟨ck, hckd⟩ : ∃ s, s = chkB x gs at' := ⟨_, rfl⟩
    obtain ⟨hb0, hhb⟩ : ∃ s, s = holdsB x.sign (tbs x gs at') x.sig := ⟨_, rfl⟩
    obtain ⟨tx, htx⟩ : ∃ s, s = textL x gs at' := ⟨_, rfl⟩
    rw [← hlb] at HRL HCH hck hcn
    rw [← hckd] at HCK hck hcn
    rw [← hhb] at HCH hck
    rw [← htx] at HTX HCH
    have heb : ∀ (W : World) (p q : Bool), (binOp .eql 4 (.bool p) (.bool q)).run Tryz.prog W = .ok (.bool (p == q)) W := fun W p q => run_eql_bool W 4 p q Tryz.underlying4
    clear hlb hckd hhb htx HSM HA hC hS hl2 hgl hs hbl
    have K2 := hid ((HB2.out.block _ (block_lt K0.out)).trans K0.out)
    have HCY := hid hck; have HCN := hid hcn; have HA16 := hid ha16
    clear hck hcn ha16
    go_wp2_with (with_reducible refine wpList_load_row rfl LfT (.tmp 3) rfl w.heap.size rfl LfT (lfV x a) (0, 0) _ K2.out Tryz.underlying24 rfl infoLf ?_)
    refine (HCK.out _ HB2.out).mono ?_
    rintro e w3 ⟨rfl, hb⟩
    have HB3 := hid (HB2.out.trans (hb.mono HB2.out.size))
    have K3 := hid ((HB3.out.block _ (block_lt K0.out)).trans K0.out)
    clear hb HB2 K2 HCK
    go_wp2_with (with_reducible refine wpList_load_row rfl LfT (.tmp 3) rfl w.heap.size rfl LfT (lfV x a) (0, 0) _ K3.out Tryz.underlying24 rfl infoLf ?_)
    refine (HRL.out _).mono ?_
    rintro e w5 ⟨rfl, hb⟩
    have HB5 := hid (HB3.out.trans (hb.mono HB3.out.size))
    have K5 := hid ((HB5.out.block _ (block_lt K0.out)).trans K0.out)
    have c3 : w5.cell? ⟨w.heap.size, 3, none⟩ = some (.int .u8 (x.src : Int)) := cell_of K5.out 3 _ rfl
    clear hb HB3 K3
    cases lb with
    | false =>
      have hx := HCN.out (.inl rfl)
      subst hx
      go_wp2
      go_ret
      exact ⟨rfl, HB0.out.trans (HB5.out.mono HB0.out.size)⟩
    | true =>
      by_cases h1 : x.src = 1
      · have hat2 := HTX.out (.inl h1)
        have HT2 := hid hat2
        have hx := HCY.out rfl (by rw [HA16.out, decide_eq_true h1]; rfl)
        subst hx
        have HC2 := hid (HCH.out rfl)
        clear HCH
        have hc1 : (x.src : Int) = 1 := by omega
        have hc2 : ((x.src : Int) != 1) = false := by rw [hc1]; rfl
        rw [h1] at c3
        clear hat2 h1 HTX
        go_upto_region 8 with fail
        refine wp_region_grA 11 (by kernel_rfl) (by decide) ?_
        refine wpGrA_take (i := 0) (.bool ck) rfl (by kernel_rfl) (by kernel_rfl) (fun _ _ _ h => h) (yG_val _ (by rfl) (fun w' hb => by (go_simp; try rfl))) ?_
        (try simp only [Act.put, List.getElem_toArray, List.getElem_cons_succ, List.getElem_cons_zero, List.setIfInBounds_toArray, List.set_cons_zero, List.set_cons_succ])
        refine wpGrA_take (i := 1) (.pointer (some ⟨w.heap.size, 1, none⟩)) rfl (by kernel_rfl) (by kernel_rfl) (fun _ _ _ h => h) (yG_val _ (by rfl) (fun w' hb => by (go_simp; try rfl))) ?_
        (try simp only [Act.put, List.getElem_toArray, List.getElem_cons_succ, List.getElem_cons_zero, List.setIfInBounds_toArray, List.set_cons_zero, List.set_cons_succ])
        refine wpGrA_take (i := 2) (.slice a.a1 x.sign.length a.c1) rfl (by kernel_rfl) (by kernel_rfl) (fun _ _ _ h => h) (yG_val _ (by rfl) (fun w' hb => by have hc := cell_of ((hb.block _ (block_lt K5.out)).trans K5.out) 1 _ rfl; (go_simp; try rfl))) ?_
        (try simp only [Act.put, List.getElem_toArray, List.getElem_cons_succ, List.getElem_cons_zero, List.setIfInBounds_toArray, List.set_cons_zero, List.set_cons_succ])
        refine wpGrA_take (i := 3) (.agg (lfV x a)) rfl (by kernel_rfl) (by kernel_rfl) (fun _ _ _ h => h) (yG_part (by rfl) LfT (.tmp 3) rfl w.heap.size 0 rfl LfT (lfV x a) (lfV x a) (0, 0) _ K5.out rfl Tryz.underlying24 rfl infoLf) ?_
        (try simp only [Act.put, List.getElem_toArray, List.getElem_cons_succ, List.getElem_cons_zero, List.setIfInBounds_toArray, List.set_cons_zero, List.set_cons_succ])
        refine wpGrA_take (i := 4) (.slice A gs.length c) rfl (by kernel_rfl) (by kernel_rfl) (fun _ _ _ h => h) (yG_val _ (by rfl) (fun w' hb => by (go_simp; try rfl))) ?_
        (try simp only [Act.put, List.getElem_toArray, List.getElem_cons_succ, List.getElem_cons_zero, List.setIfInBounds_toArray, List.set_cons_zero, List.set_cons_succ])
        refine wpGrA_take (i := 5) (.int .i64 at') rfl (by kernel_rfl) (by kernel_rfl) (fun _ _ _ h => h) (yG_val _ (by rfl) (fun w' hb => by (go_simp; try rfl))) ?_
        (try simp only [Act.put, List.getElem_toArray, List.getElem_cons_succ, List.getElem_cons_zero, List.setIfInBounds_toArray, List.set_cons_zero, List.set_cons_succ])
        refine wpGrA_take (i := 7) (.pointer (some ⟨w.heap.size, 5, none⟩)) rfl (by kernel_rfl) (by kernel_rfl) (fun _ _ _ h => h) (yG_val _ (by rfl) (fun w' hb => by (go_simp; try rfl))) ?_
        (try simp only [Act.put, List.getElem_toArray, List.getElem_cons_succ, List.getElem_cons_zero, List.setIfInBounds_toArray, List.set_cons_zero, List.set_cons_succ])
        refine wpGrA_take (i := 8) (.slice a.a4 x.sig.length a.c4) rfl (by kernel_rfl) (by kernel_rfl) (fun _ _ _ h => h) (yG_val _ (by rfl) (fun w' hb => by have hc := cell_of ((hb.block _ (block_lt K5.out)).trans K5.out) 5 _ rfl; (go_simp; try rfl))) ?_
        (try simp only [Act.put, List.getElem_toArray, List.getElem_cons_succ, List.getElem_cons_zero, List.setIfInBounds_toArray, List.set_cons_zero, List.set_cons_succ])
        refine wpGrA_q (i := 6) (tx) rfl (by kernel_rfl) (by rfl) (fun w' => by go_simp) (fun w' hb => HT2.out w' (HB5.out.trans (hb.mono HB5.out.size))) ?_
        intro AT cT w6 hb hq
        (try simp only [Act.put, List.getElem_toArray, List.getElem_cons_succ, List.getElem_cons_zero, List.setIfInBounds_toArray, List.set_cons_zero, List.set_cons_succ])
        have HB6 := hid (HB5.out.trans (hb.mono HB5.out.size)); have HQT := hid hq
        clear hb hq
        refine wpGrA_take (i := 9) (.bool ck) rfl (by kernel_rfl) (by kernel_rfl) (fun _ _ _ h => h) (yG_call (by rfl) (fun w' => by (go_simp; try rfl)) (fun w' hb => HC2.out AT cT w' (HB6.out.trans (hb.mono HB6.out.size)) ((HQT.out.below hb).more hb.size))) ?_
        (try simp only [Act.put, List.getElem_toArray, List.getElem_cons_succ, List.getElem_cons_zero, List.setIfInBounds_toArray, List.set_cons_zero, List.set_cons_succ])
        refine wpGrA_take (i := 10) (.bool true) rfl (by kernel_rfl) (by kernel_rfl) (fun _ _ _ h => h) (yG_val _ (by rfl) (fun w' hb => by have hn := heb w' ck ck; rw [beq_self_eq_true] at hn; (go_simp; try rfl))) ?_
        (try simp only [Act.put, List.getElem_toArray, List.getElem_cons_succ, List.getElem_cons_zero, List.setIfInBounds_toArray, List.set_cons_zero, List.set_cons_succ])
        refine wpGrA_end (by kernel_rfl) ?_
        intro w9 hb
        simp only [List.drop_succ_cons, List.drop_zero]
        have HB9 := hid (HB6.out.trans (hb.mono HB6.out.size))
        clear hb
        go_wp2
        go_ret
        exact ⟨rfl, HB0.out.trans (HB9.out.mono HB0.out.size)⟩
      · have hc1 : ¬ (x.src : Int) = 1 := by omega
        have hc2 : ((x.src : Int) != 1) = true := by rw [bne_iff_ne]; exact hc1
        by_cases h2 : at' < 0
        · have hx := HCN.out (.inr (by rw [HA16.out, decide_eq_false h1, decide_eq_false (by omega)]; rfl))
          subst hx
          clear h1
          go_wp2
          go_ret
          exact ⟨rfl, HB0.out.trans (HB5.out.mono HB0.out.size)⟩
        · by_cases h3 : 65535 < at'
          · have hx := HCN.out (.inr (by rw [HA16.out, decide_eq_false h1, decide_eq_false (show ¬ at' ≤ 65535 by omega), Bool.and_false]; rfl))
            subst hx
            have h3' : at' > 65535 := h3
            clear h1
            go_wp2
            go_ret
            exact ⟨rfl, HB0.out.trans (HB5.out.mono HB0.out.size)⟩
          · have hat2 := HTX.out (.inr ⟨by omega, by omega⟩)
            have HT2 := hid hat2
            have hx := HCY.out rfl (by rw [HA16.out, decide_eq_true (show 0 ≤ at' by omega), decide_eq_true (show at' ≤ 65535 by omega)]; simp)
            subst hx
            have HC2 := hid (HCH.out rfl)
            clear HCH
            have h3' : ¬ at' > 65535 := h3
            clear hat2 h1 HTX
            go_upto_region 8 with fail
            refine wp_region_grA 11 (by kernel_rfl) (by decide) ?_
            refine wpGrA_take (i := 0) (.bool ck) rfl (by kernel_rfl) (by kernel_rfl) (fun _ _ _ h => h) (yG_val _ (by rfl) (fun w' hb => by (go_simp; try rfl))) ?_
            (try simp only [Act.put, List.getElem_toArray, List.getElem_cons_succ, List.getElem_cons_zero, List.setIfInBounds_toArray, List.set_cons_zero, List.set_cons_succ])
            refine wpGrA_take (i := 1) (.pointer (some ⟨w.heap.size, 1, none⟩)) rfl (by kernel_rfl) (by kernel_rfl) (fun _ _ _ h => h) (yG_val _ (by rfl) (fun w' hb => by (go_simp; try rfl))) ?_
            (try simp only [Act.put, List.getElem_toArray, List.getElem_cons_succ, List.getElem_cons_zero, List.setIfInBounds_toArray, List.set_cons_zero, List.set_cons_succ])
            refine wpGrA_take (i := 2) (.slice a.a1 x.sign.length a.c1) rfl (by kernel_rfl) (by kernel_rfl) (fun _ _ _ h => h) (yG_val _ (by rfl) (fun w' hb => by have hc := cell_of ((hb.block _ (block_lt K5.out)).trans K5.out) 1 _ rfl; (go_simp; try rfl))) ?_
            (try simp only [Act.put, List.getElem_toArray, List.getElem_cons_succ, List.getElem_cons_zero, List.setIfInBounds_toArray, List.set_cons_zero, List.set_cons_succ])
            refine wpGrA_take (i := 3) (.agg (lfV x a)) rfl (by kernel_rfl) (by kernel_rfl) (fun _ _ _ h => h) (yG_part (by rfl) LfT (.tmp 3) rfl w.heap.size 0 rfl LfT (lfV x a) (lfV x a) (0, 0) _ K5.out rfl Tryz.underlying24 rfl infoLf) ?_
            (try simp only [Act.put, List.getElem_toArray, List.getElem_cons_succ, List.getElem_cons_zero, List.setIfInBounds_toArray, List.set_cons_zero, List.set_cons_succ])
            refine wpGrA_take (i := 4) (.slice A gs.length c) rfl (by kernel_rfl) (by kernel_rfl) (fun _ _ _ h => h) (yG_val _ (by rfl) (fun w' hb => by (go_simp; try rfl))) ?_
            (try simp only [Act.put, List.getElem_toArray, List.getElem_cons_succ, List.getElem_cons_zero, List.setIfInBounds_toArray, List.set_cons_zero, List.set_cons_succ])
            refine wpGrA_take (i := 5) (.int .i64 at') rfl (by kernel_rfl) (by kernel_rfl) (fun _ _ _ h => h) (yG_val _ (by rfl) (fun w' hb => by (go_simp; try rfl))) ?_
            (try simp only [Act.put, List.getElem_toArray, List.getElem_cons_succ, List.getElem_cons_zero, List.setIfInBounds_toArray, List.set_cons_zero, List.set_cons_succ])
            refine wpGrA_take (i := 7) (.pointer (some ⟨w.heap.size, 5, none⟩)) rfl (by kernel_rfl) (by kernel_rfl) (fun _ _ _ h => h) (yG_val _ (by rfl) (fun w' hb => by (go_simp; try rfl))) ?_
            (try simp only [Act.put, List.getElem_toArray, List.getElem_cons_succ, List.getElem_cons_zero, List.setIfInBounds_toArray, List.set_cons_zero, List.set_cons_succ])
            refine wpGrA_take (i := 8) (.slice a.a4 x.sig.length a.c4) rfl (by kernel_rfl) (by kernel_rfl) (fun _ _ _ h => h) (yG_val _ (by rfl) (fun w' hb => by have hc := cell_of ((hb.block _ (block_lt K5.out)).trans K5.out) 5 _ rfl; (go_simp; try rfl))) ?_
            (try simp only [Act.put, List.getElem_toArray, List.getElem_cons_succ, List.getElem_cons_zero, List.setIfInBounds_toArray, List.set_cons_zero, List.set_cons_succ])
            refine wpGrA_q (i := 6) (tx) rfl (by kernel_rfl) (by rfl) (fun w' => by go_simp) (fun w' hb => HT2.out w' (HB5.out.trans (hb.mono HB5.out.size))) ?_
            intro AT cT w6 hb hq
            (try simp only [Act.put, List.getElem_toArray, List.getElem_cons_succ, List.getElem_cons_zero, List.setIfInBounds_toArray, List.set_cons_zero, List.set_cons_succ])
            have HB6 := hid (HB5.out.trans (hb.mono HB5.out.size)); have HQT := hid hq
            clear hb hq
            refine wpGrA_take (i := 9) (.bool ck) rfl (by kernel_rfl) (by kernel_rfl) (fun _ _ _ h => h) (yG_call (by rfl) (fun w' => by (go_simp; try rfl)) (fun w' hb => HC2.out AT cT w' (HB6.out.trans (hb.mono HB6.out.size)) ((HQT.out.below hb).more hb.size))) ?_
            (try simp only [Act.put, List.getElem_toArray, List.getElem_cons_succ, List.getElem_cons_zero, List.setIfInBounds_toArray, List.set_cons_zero, List.set_cons_succ])
            refine wpGrA_take (i := 10) (.bool true) rfl (by kernel_rfl) (by kernel_rfl) (fun _ _ _ h => h) (yG_val _ (by rfl) (fun w' hb => by have hn := heb w' ck ck; rw [beq_self_eq_true] at hn; (go_simp; try rfl))) ?_
            (try simp only [Act.put, List.getElem_toArray, List.getElem_cons_succ, List.getElem_cons_zero, List.setIfInBounds_toArray, List.set_cons_zero, List.set_cons_succ])
            refine wpGrA_end (by kernel_rfl) ?_
            intro w9 hb
            simp only [List.drop_succ_cons, List.drop_zero]
            have HB9 := hid (HB6.out.trans (hb.mono HB6.out.size))
            clear hb
            go_wp2
            go_ret
            exact ⟨rfl, HB0.out.trans (HB9.out.mono HB0.out.size)⟩
end Go.Proofs.YtgehfbcagaaggaaGreatDoor
end
section
namespace Go.Proofs.YtgehfbcagaaggaaGreatDoor
open Go Go.RowKit
set_option linter.unusedVariables false
set_option linter.unusedSimpArgs false
theorem made_leaf {box P ident s : List UInt8} {r : Nat} (h0 : box.length = 32) (h1 : P.length = 32) (h2 : 1 ≤ ident.length ∧ ident.length ≤ 64) (hr : 1 ≤ r ∧ r ≤ 3) (hs : s.length = 64) : leafB ⟨box, P, ident, r, [], s⟩ = true := by
  unfold leafB leafN
  show (decide (box.length = 32) && decide (P.length = 32) && decide (0 < ident.length) && decide (ident.length ≤ 64) && decide (0 < r) && decide (r < 4) && (decide (([] : List UInt8).length = 0) || (decide (r = 3) && decide (([] : List UInt8).length = 32))) && decide (s.length = 64)) = true
  rw [decide_eq_true h0, decide_eq_true h1, decide_eq_true (show 0 < ident.length by omega), decide_eq_true h2.2, decide_eq_true (show 0 < r by omega), decide_eq_true (show r < 4 by omega), decide_eq_true hs]
  rfl
theorem made_200 {box P ident s : List UInt8} {r : Nat} (h0 : box.length = 32) (h1 : P.length = 32) (h2 : ident.length ≤ 64) (hr : r ≤ 3) (hs : s.length ≤ 64) : Lf200 ⟨box, P, ident, r, [], s⟩ :=
  ⟨by show box.length ≤ 200; omega, by show P.length ≤ 200; omega, by show ident.length ≤ 200; omega, Nat.zero_le _, by show s.length ≤ 200; omega, by show r < 256; omega⟩
theorem tbs_one {x : Lf} (h : x.src = 1) (g g' : List UInt8) (i j : Int) : tbs x g i = tbs x g' j := by unfold tbs textL; rw [if_pos h, if_pos h]
set_option maxRecDepth 100000 in
set_option maxHeartbeats 4000000 in
theorem nodeMade_any (hP : SgnPublic) (hS : NdSignLeaf) (hC : NdCheckLeaf) (hA : Alive16) (A0 : Option Addr) (box : List UInt8) (c0 : Nat) (A1 : Option Addr) (ident : List UInt8) (c1 : Nat) (A2 : Option Addr) (seed : List UInt8) (c2 : Nat) (A3 : Option Addr) (gs : List UInt8) (c3 : Nat) (s at' : Int) (w : World) (hG : GlobL w)
    (q0 : Sq w w.heap.size A0 c0 (bvs box)) (q1 : Sq w w.heap.size A1 c1 (bvs ident)) (q2 : Sq w w.heap.size A2 c2 (bvs seed)) (q3 : Sq w w.heap.size A3 c3 (bvs gs)) (hs : 0 ≤ s ∧ s ≤ 255) (hat : 0 ≤ at' ∧ at' ≤ 65535) :
    Calls Tryz.prog 5 #[.slice A0 box.length c0, .slice A1 ident.length c1, .slice A2 seed.length c2, .slice A3 gs.length c3, .int .u8 s, .int .u16 at'] w (RetB w true) := by
  have HA := hid hA
  have HG : Hid (∀ W, Below w.heap.size w W → GlobL W) := hid fun W h => hG.below h (Nat.le_refl _)
  have Q0 := hid q0; have Q1 := hid q1; have Q2 := hid q2; have Q3 := hid q3
  clear hA hG q0 q1 q2 q3
  go_enter Tryz.func5, Tryz.ntmps5
  go_wp2_with fail
  refine (HA.out _).mono ?_
  rintro e w1 ⟨rfl, hb⟩
  have HB1 := hid hb
  clear hb HA
  by_cases g1 : (box.length : Int) = 32
  case neg =>
    have g1' : ((box.length : Int) != 32) = true := by rw [bne_iff_ne]; exact g1
    go_wp2
    go_ret
    exact ⟨rfl, HB1.out⟩
  have g1' : ((box.length : Int) != 32) = false := by rw [g1]; rfl
  by_cases g2 : (ident.length : Int) < 1
  case pos =>
    go_wp2
    go_ret
    exact ⟨rfl, HB1.out⟩
  by_cases g3 : (ident.length : Int) > 64
  case pos =>
    have g3' : (64 : Int) < (ident.length : Int) := g3
    go_wp2
    go_ret
    exact ⟨rfl, HB1.out⟩
  have g3' : ¬ (64 : Int) < (ident.length : Int) := g3
  by_cases g4 : (seed.length : Int) = 32
  case neg =>
    have g4' : ((seed.length : Int) != 32) = true := by rw [bne_iff_ne]; exact g4
    go_wp2
    go_ret
    exact ⟨rfl, HB1.out⟩
  have g4' : ((seed.length : Int) != 32) = false := by rw [g4]; rfl
  by_cases g5 : (gs.length : Int) > 100
  case pos =>
    have g5' : (100 : Int) < (gs.length : Int) := g5
    go_wp2
    go_ret
    exact ⟨rfl, HB1.out⟩
  have g5' : ¬ (100 : Int) < (gs.length : Int) := g5
  have HL : Hid (box.length = 32 ∧ (1 ≤ ident.length ∧ ident.length ≤ 64) ∧ seed.length = 32 ∧ gs.length ≤ 100) := hid ⟨by omega, ⟨by omega, by omega⟩, by omega, by omega⟩
  have HPB : Hid (∀ W, Below w.heap.size w W → Calls Tryz.prog 13 #[.slice A2 seed.length c2] W (SgR W (some (pubB seed)))) := hid fun W h => by
    have h2 := hP A2 seed c2 W (HG.out W h) (sq_up Q2.out h) (by omega)
    rw [if_pos (by omega)] at h2
    exact h2
  unfold SgR at HPB
  have hpl := pubB_length seed
  obtain ⟨P, hPd⟩ : ∃ P, P = pubB seed := ⟨_, rfl⟩
  simp only [← hPd, Option.getD_some, Option.isSome_some, if_true] at HPB
  rw [← hPd] at hpl
  have HPD := hid hPd; have HPL := hid hpl
  clear hPd hpl
  go_wp2_with fail
  refine (HPB.out _ HB1.out).mono ?_
  rintro e w2 ⟨AP, cP, rfl, hq, hb⟩
  have HB2 := hid (HB1.out.trans (hb.mono HB1.out.size)); have QP := hid hq
  clear hb hq HB1 HPB
  obtain ⟨r, hr⟩ : ∃ r : Nat, (r : Int) = 1 + s % 3 := ⟨(1 + s % 3).toNat, by omega⟩
  have hr3 : 1 ≤ r ∧ r ≤ 3 := by omega
  obtain ⟨SG, hSG⟩ : ∃ SG, SG = sigB seed (tbs ⟨box, P, ident, r, [], []⟩ gs at') := ⟨_, rfl⟩
  have hsl : SG.length = 64 := by rw [hSG]; exact sigB_length _ _
  have l0 := HL.out.1; have l1 := HPL.out; have l2 := HL.out.2.1; have l4 := HL.out.2.2.1; have l5 := HL.out.2.2.2
  have hlf : ∀ t : List UInt8, t.length = 64 → leafB ⟨box, P, ident, r, [], t⟩ = true := fun t ht => made_leaf l0 l1 l2 hr3 ht
  have hat16 : ∀ t : List UInt8, at16 ⟨box, P, ident, r, [], t⟩ at' = true := fun t => by unfold at16; rw [decide_eq_true hat.1, decide_eq_true hat.2]; simp
  have hE : ∀ t : List UInt8, signE ⟨box, P, ident, r, [], t⟩ seed at' = 0 := fun t => by
    have h1 : leafB (withSig ⟨box, P, ident, r, [], t⟩ sig0) = true := hlf sig0 (by decide)
    unfold signE
    rw [h1, hat16 t, if_neg (by simp), if_neg (by simp [l4])]
  have hSL : ∀ t : List UInt8, signL ⟨box, P, ident, r, [], t⟩ seed gs at' = ⟨box, P, ident, r, [], SG⟩ := fun t => by
    unfold signL
    rw [if_pos (hE t), hSG]
    rfl
  have hCK : chkB ⟨box, P, ident, r, [], SG⟩ gs at' = true := by
    have h := sign_check ⟨box, P, ident, r, [], []⟩ seed gs at' (hE []) HPD.out
    rw [hSL []] at h
    exact h
  have hCK1 : r = 1 → chkB ⟨box, P, ident, r, [], SG⟩ [] (-1) = true := fun h1 => by
    have h := hCK
    unfold chkB at h ⊢
    rw [hlf SG hsl, hat16 SG] at h
    rw [hlf SG hsl, tbs_one (x := ⟨box, P, ident, r, [], SG⟩) h1 [] gs (-1) at', show at16 ⟨box, P, ident, r, [], SG⟩ (-1) = true by unfold at16; rw [decide_eq_true h1]; rfl]
    exact h
  have h200 : ∀ t : List UInt8, t.length ≤ 64 → Lf200 ⟨box, P, ident, r, [], t⟩ := fun t ht => made_200 l0 l1 l2.2 hr3.2 ht
  have HS1 : Hid (∀ t a W, t.length ≤ 64 → Below w.heap.size w W → LfS W ⟨box, P, ident, r, [], t⟩ a → Calls Tryz.prog 8 #[.agg (lfV ⟨box, P, ident, r, [], t⟩ a), .slice A2 seed.length c2, .slice A3 gs.length c3, .int .i64 at'] W (LeafE W ⟨box, P, ident, r, [], SG⟩ 0)) := hid fun t a W ht h h2 => by
    have h3 := hS ⟨box, P, ident, r, [], t⟩ a A2 seed c2 A3 gs c3 at' W (HG.out W h) h2 (h200 t ht) (sq_up Q2.out h) (sq_up Q3.out h) (by omega) l5 ⟨by omega, by omega⟩
    rw [hSL t, hE t] at h3
    exact h3
  have HC1 : Hid (∀ a W, Below w.heap.size w W → LfS W ⟨box, P, ident, r, [], SG⟩ a → Calls Tryz.prog 15 #[.agg (lfV ⟨box, P, ident, r, [], SG⟩ a), .slice A3 gs.length c3, .int .i64 at'] W (RetB W true)) := hid fun a W h h2 => by
    have h3 := hC ⟨box, P, ident, r, [], SG⟩ a A3 gs c3 at' W (HG.out W h) h2 (h200 SG (by omega)) (sq_up Q3.out h) l5 ⟨by omega, by omega⟩
    rw [hCK] at h3
    exact h3
  have HC2 : Hid (r = 1 → ∀ a W, Below w.heap.size w W → LfS W ⟨box, P, ident, r, [], SG⟩ a → Calls Tryz.prog 15 #[.agg (lfV ⟨box, P, ident, r, [], SG⟩ a), .slice none 0 0, .int .i64 (-1)] W (RetB W true)) := hid fun h1 a W h h2 => by
    have h3 := hC ⟨box, P, ident, r, [], SG⟩ a none [] 0 (-1) W (HG.out W h) h2 (h200 SG (by omega)) Sq.nil (by decide) ⟨by decide, by decide⟩
    rw [hCK1 h1] at h3
    exact h3
  have HSM : Hid (∀ a b W, LfS W ⟨box, P, ident, r, [], SG⟩ a → LfS W ⟨box, P, ident, r, [], SG⟩ b → Calls Tryz.prog 10 #[.agg (lfV ⟨box, P, ident, r, [], SG⟩ a), .agg (lfV ⟨box, P, ident, r, [], SG⟩ b)] W (RetB W true)) := hid fun a b W h1 h2 => by
    have h := SameLeaf16_any ⟨box, P, ident, r, [], SG⟩ ⟨box, P, ident, r, [], SG⟩ a b W h1.in_ h2.in_ ⟨by show box.length ≤ _; omega, by show P.length ≤ _; omega, by show ident.length ≤ _; omega, Nat.zero_le _, by show SG.length ≤ _; omega, by show r < 256; omega⟩
    rw [show sameLf ⟨box, P, ident, r, [], SG⟩ ⟨box, P, ident, r, [], SG⟩ = true by unfold sameLf; simp] at h
    exact h
  have HL0 : Hid (LfS w2 ⟨box, P, ident, r, [], []⟩ ⟨A0, AP, A1, none, none, c0, cP, c1, 0, 0⟩) := hid ⟨sq_up Q0.out HB2.out, QP.out, sq_up Q1.out HB2.out, Sq.nil, Sq.nil⟩
  have HSa := hid (fun a W h h2 => HS1.out [] a W (by decide) h h2)
  have HSb := hid (fun a W h h2 => HS1.out SG a W (by omega) h h2)
  obtain ⟨L1, hL1⟩ : ∃ L : Lf, L = ⟨box, P, ident, r, [], SG⟩ := ⟨_, rfl⟩
  have HSR : Hid (L1.src = r) := hid (by rw [hL1])
  rw [← hL1] at HSa HSb HC1 HC2 HSM
  clear hL1 HS1
  have HRR : Hid (1 ≤ r ∧ r ≤ 3) := hid hr3; have HSGL : Hid (SG.length ≤ 64) := hid (by omega)
  clear hSG hsl l0 l1 l2 l4 l5 hlf hat16 hE hSL hCK hCK1 h200 hr3 hP hS hC HG
  go_wp2_with fail
  rw [← hr]
  have h1 := HSa.out _ w2 HB2.out HL0.out
  refine h1.mono ?_
  clear h1
  rintro e w3 ⟨a1, rfl, hl, hb⟩
  have HB3 := hid (HB2.out.trans (hb.mono HB2.out.size))
  have K15 := hid (setRow_heap (w3.alloc (.cells lfZ LfT)) w3.heap.size lfZ (lfV L1 a1) LfT (0, 0) (heap_alloc_new w3 _))
  have HBn : Hid (Below w3.heap.size w3 ((w3.alloc (.cells lfZ LfT)).setRow w3.heap.size (lfV L1 a1))) := hid (((Below.refl _ _).alloc (Nat.le_refl _) _).trans (below_put _ _ _ (Nat.le_refl _)))
  have HL1 := hid (hl.on HBn.out); have HB4 := hid (HB3.out.trans (HBn.out.mono HB3.out.size))
  have KZ := heap_alloc_new w3 (.cells lfZ LfT)
  clear hl hb HB3 HBn HB2 QP HL0
  go_wp2_with (first | (with_reducible refine wpList_store_row rfl LfT (.tmp 15) _ rfl w3.heap.size (lfV L1 a1) rfl rfl LfT lfZ KZ infoLf lfZ_size lfV_one ?_) | (with_reducible refine wpList_load_row rfl LfT (.tmp 15) rfl w3.heap.size rfl LfT (lfV L1 a1) (0, 0) _ K15.out Tryz.underlying24 rfl infoLf ?_))
  generalize (w3.alloc (Obj.cells lfZ LfT)).setRow w3.heap.size (lfV L1 a1) = w4 at K15 HL1 HB4 ⊢
  refine (HSb.out a1 w4 HB4.out HL1.out).mono ?_
  rintro e w5 ⟨a2, rfl, hl, hb⟩
  have HB5 := hid (HB4.out.trans (hb.mono HB4.out.size))
  have K155 := hid ((hb.block _ (block_lt K15.out)).trans K15.out); have HL15 := hid (HL1.out.on hb)
  have K17 := hid (setRow_heap (w5.alloc (.cells lfZ LfT)) w5.heap.size lfZ (lfV L1 a2) LfT (0, 0) (heap_alloc_new w5 _))
  have HBn : Hid (Below w5.heap.size w5 ((w5.alloc (.cells lfZ LfT)).setRow w5.heap.size (lfV L1 a2))) := hid (((Below.refl _ _).alloc (Nat.le_refl _) _).trans (below_put _ _ _ (Nat.le_refl _)))
  have HL2 := hid (hl.on HBn.out); have HL16 := hid (HL15.out.on HBn.out); have HB6 := hid (HB5.out.trans (HBn.out.mono HB5.out.size))
  have K156 := hid ((HBn.out.block _ (block_lt K155.out)).trans K155.out)
  have KZ5 := heap_alloc_new w5 (.cells lfZ LfT)
  obtain ⟨s0, s1, s2, s3, s4, s5⟩ := lf_six K17.out
  obtain ⟨u0, u1, u2, u3, u4, u5⟩ := lf_six K156.out
  clear hl hb HB4 HL1 K15 KZ HB5 K155 HL15 HBn
  go_wp2_with (with_reducible refine wpList_store_row rfl LfT (.tmp 17) _ rfl w5.heap.size (lfV L1 a2) rfl rfl LfT lfZ KZ5 infoLf lfZ_size lfV_one ?_)
  generalize (w5.alloc (Obj.cells lfZ LfT)).setRow w5.heap.size (lfV L1 a2) = w6 at K17 HL2 HL16 HB6 K156 s0 s1 s2 s3 s4 s5 u0 u1 u2 u3 u4 u5 ⊢
  refine (HSM.out a2 a1 w6 HL2.out HL16.out).mono ?_
  rintro e w7 ⟨rfl, hb⟩
  have HB7 := hid (HB6.out.trans (hb.mono HB6.out.size)); have HL7 := hid (HL16.out.on hb)
  have K157 := hid ((hb.block _ (block_lt K156.out)).trans K156.out)
  clear hb HB6 HL16 K156 K17 HL2 KZ5 s0 s1 s2 s3 s4 s5 u0 u1 u2 u3 u4 u5
  obtain ⟨u0, u1, u2, u3, u4, u5⟩ := lf_six K157.out
  go_wp2_with fail
  refine (HC1.out a1 w7 HB7.out HL7.out).mono ?_
  rintro e w8 ⟨rfl, hb⟩
  have HB8 := hid (HB7.out.trans (hb.mono HB7.out.size)); have HL8 := hid (HL7.out.on hb)
  have K158 := hid ((hb.block _ (block_lt K157.out)).trans K157.out)
  clear hb HB7 HL7 K157 u0 u1 u2 u3 u4 u5
  obtain ⟨u0, u1, u2, u3, u4, u5⟩ := lf_six K158.out
  rw [HSR.out] at u3
  by_cases h1 : r = 1
  · have hc1 : (r : Int) = 1 := by omega
    have hc2 : ((r : Int) != 1) = false := by rw [hc1]; rfl
    have HC3 := hid (HC2.out h1)
    rw [h1] at u3
    clear h1
    go_wp2_with fail
    have hsr1 : (L1.src : Int) = 1 := by rw [HSR.out]; exact hc1
    have h9 := HC3.out a1 w8 HB8.out HL8.out
    simp only [lfV, hsr1] at h9
    refine h9.mono ?_
    clear h9
    rintro e w9 ⟨rfl, hb⟩
    have HB9 := hid (HB8.out.trans (hb.mono HB8.out.size))
    clear hb
    go_wp2
    go_ret
    exact ⟨rfl, HB9.out⟩
  · have hc1 : ¬ (r : Int) = 1 := by omega
    have hc2 : ((r : Int) != 1) = true := by rw [bne_iff_ne]; exact hc1
    clear h1
    go_wp2
    go_ret
    exact ⟨rfl, HB8.out⟩
end Go.Proofs.YtgehfbcagaaggaaGreatDoor
end
section
namespace Go.Proofs.YtgehfbcagaaggaaGreatDoor
open Go Go.RowKit
set_option linter.unusedVariables false
set_option linter.unusedSimpArgs false
def zR64 : Array Value := (bvs sig0).toArray
theorem mk64 (W : World) : (Instr.makeSlice 22 (.int .i64 64) (.int .i64 64)).run Tryz.prog W = .ok (.slice (some ⟨W.heap.size, 0, none⟩) 64 64) (W.alloc (.cells zR64 5)) := by
  have h := run_make_row' (P := Tryz.prog) 22 5 (.int .u8 0) 1 Tryz.underlying22 infoU8 rfl .i64 .i64 64 (by omega) (by omega) W
  have hz : madeCells #[Value.int .u8 0] 64 = zR64 := by
    have e := toList_madeCells_one (Value.int .u8 0) 64
    refine Array.toList_inj.1 ?_
    rw [e]
    rfl
  rw [hz] at h
  exact h
theorem sq_set_row {W : World} {B c : Nat} {A : Option Addr} {xs : List Value} (h : Sq W B A c xs) (hl : 6 < xs.length) {g : Nat} {x : Lf} {a : LA} (K : W.heap[g]? = some (.cells (lfV x a) LfT (0, 0))) (i : Nat) (v : Value) : Sq (W.setCell ⟨g, i, none⟩ v) B A c xs := by
  rcases h with ⟨rfl, _⟩ | ⟨b, o, hA, hb, h1, h2, hc⟩
  · simp at hl
  · have hne : b ≠ g := fun e => by
      have h6 := hc 6 _ (List.getElem?_eq_getElem hl)
      subst e
      rw [cell_of_row W b (o + 6) _ _ _ K] at h6
      have hz : (lfV x a).size = 6 := rfl
      rw [Array.getElem?_eq_none (by omega)] at h6
      cases h6
    exact .inr ⟨b, o, hA, hb, h1, h2, fun j u hu => (World.cell?_setCell_other W ⟨g, i, none⟩ ⟨b, o + j, none⟩ v (fun e => hne (by rw [Addr.mk.injEq] at e; exact e.1.symm))).trans (hc j u hu)⟩
theorem lf_le200 {x : Lf} (h : Lf200 x) {s : List UInt8} (hs : s.length ≤ 64) : LfLe (withSig x s) :=
  ⟨by have := h.1; show x.box.length ≤ _; omega, by have := h.2.1; show x.sign.length ≤ _; omega, by have := h.2.2.1; show x.ident.length ≤ _; omega, by have := h.2.2.2.1; show x.par.length ≤ _; omega, by show s.length ≤ _; omega, by have := h.2.2.2.2.2; show x.src < _; omega⟩
set_option maxRecDepth 100000 in
set_option maxHeartbeats 4000000 in
theorem nodeSigns_any (hP : SgnPublic) (hLb : SgnLabel) (hS : NdSignLeaf) (hC : NdCheckLeaf) (hA : Alive16) (x : Lf) (a : LA) (A2 : Option Addr) (seed : List UInt8) (c2 : Nat) (A3 : Option Addr) (gs : List UInt8) (c3 : Nat) (at' : Int) (w : World) (hG : GlobL w) (hx : LfS w x a) (hs : x.src < 256) (q2 : Sq w w.heap.size A2 c2 (bvs seed)) (q3 : Sq w w.heap.size A3 c3 (bvs gs)) (hat : I64s at') :
    Calls Tryz.prog 3 #[.agg (lfV x a), .slice A2 seed.length c2, .slice A3 gs.length c3, .int .i64 at'] w (RetB w true) := by
  have HA := hid hA
  have HSM := hid (fun W => Small16_any 0 x a pr0 pa0 W)
  obtain ⟨W0, hW0⟩ : ∃ W, W = w.alloc (.cells (lfV x a) LfT) := ⟨_, rfl⟩
  have HB0 : Hid (Below w.heap.size w W0) := hid (by rw [hW0]; exact (Below.refl _ _).alloc (Nat.le_refl _) _)
  have K0 : Hid (W0.heap[w.heap.size]? = some (.cells (lfV x a) LfT (0, 0))) := hid (by rw [hW0]; exact heap_alloc_new w _)
  have HX := hid (hx.on HB0.out); have Q2 := hid (sq_up q2 HB0.out); have Q3 := hid (sq_up q3 HB0.out)
  have HGL : Hid (∀ W, Below W0.heap.size W0 W → GlobL W) := hid fun W h => hG.below (HB0.out.trans (h.mono HB0.out.size)) (Nat.le_refl _)
  have HK0 := hid hW0
  have hbl := build_nl x a
  have hbf : ∀ W : World, (Instr.build LfT #[]).run Tryz.prog W = .ok (.agg (lfV lf0 la0)) W := fun W => run_build W LfT _ _ (by kernel_rfl)
  clear hA hx q2 q3 hW0 hG
  go_enter Tryz.func3, Tryz.ntmps3
  go_wp2_with fail
  rw [← HK0.out]
  refine (HA.out _).mono ?_
  rintro e w1 ⟨rfl, hb⟩
  have HB1 := hid hb
  have K1 := hid ((hb.block _ (block_lt K0.out)).trans K0.out)
  clear hb
  go_wp2_with (with_reducible refine wpList_load_row rfl LfT (.tmp 4) rfl w.heap.size rfl LfT (lfV x a) (0, 0) _ K1.out Tryz.underlying24 rfl infoLf ?_)
  refine (HSM.out _).mono ?_
  rintro e w2 ⟨rfl, hb⟩
  have HB2 := hid (HB1.out.trans (hb.mono HB1.out.size))
  clear hb HB1 K1
  obtain ⟨sm, hsm⟩ : ∃ s, s = smallB x pr0 := ⟨_, rfl⟩
  rw [← hsm]
  cases sm with
  | false =>
    clear hsm
    go_wp2
    go_ret
    exact ⟨rfl, HB0.out.trans (HB2.out.mono HB0.out.size)⟩
  | true =>
    have hl2 := small_lf hsm.symm hs
    clear hsm
    by_cases hgs : 100 < seed.length
    · have hi : (seed.length : Int) > 100 := by omega
      have hi2 : (100 : Int) < (seed.length : Int) := by omega
      go_wp2
      go_ret
      exact ⟨rfl, HB0.out.trans (HB2.out.mono HB0.out.size)⟩
    have hi : ¬ (seed.length : Int) > 100 := by omega
    have hi2 : ¬ (100 : Int) < (seed.length : Int) := by omega
    by_cases hgl : 100 < gs.length
    · have hj : (gs.length : Int) > 100 := by omega
      have hj2 : (100 : Int) < (gs.length : Int) := by omega
      go_wp2
      go_ret
      exact ⟨rfl, HB0.out.trans (HB2.out.mono HB0.out.size)⟩
    have hj : ¬ (gs.length : Int) > 100 := by omega
    have hj2 : ¬ (100 : Int) < (gs.length : Int) := by omega
    have HSL : Hid (∀ W, Below W0.heap.size W0 W → Calls Tryz.prog 8 #[.agg (lfV x a), .slice A2 seed.length c2, .slice A3 gs.length c3, .int .i64 at'] W (LeafE W (signL x seed gs at') (signE x seed at'))) := hid fun W h => hS x a A2 seed c2 A3 gs c3 at' W (HGL.out W h) (HX.out.on h) hl2 (sq_up Q2.out h) (sq_up Q3.out h) (by omega) (by omega) hat
    obtain ⟨LG, hLG⟩ : ∃ L, L = signL x seed gs at' := ⟨_, rfl⟩
    obtain ⟨EG, hEG⟩ : ∃ L, L = signE x seed at' := ⟨_, rfl⟩
    rw [← hLG, ← hEG] at HSL
    have HLG := hid hLG; have HEG := hid hEG
    have K2 := hid ((HB2.out.block _ (block_lt K0.out)).trans K0.out)
    clear hLG hEG HSM HA hbl
    go_wp2_with (with_reducible refine wpList_load_row rfl LfT (.tmp 4) rfl w.heap.size rfl LfT (lfV x a) (0, 0) _ K2.out Tryz.underlying24 rfl infoLf ?_)
    refine (HSL.out _ HB2.out).mono ?_
    rintro e w3 ⟨a1, rfl, hl, hb⟩
    have HB3 := hid (HB2.out.trans (hb.mono HB2.out.size))
    have K9 := hid (setRow_heap (w3.alloc (.cells lfZ LfT)) w3.heap.size lfZ (lfV LG a1) LfT (0, 0) (heap_alloc_new w3 _))
    have HBn : Hid (Below w3.heap.size w3 ((w3.alloc (.cells lfZ LfT)).setRow w3.heap.size (lfV LG a1))) := hid (((Below.refl _ _).alloc (Nat.le_refl _) _).trans (below_put _ _ _ (Nat.le_refl _)))
    have HL9 := hid (hl.on HBn.out); have HB4 := hid (HB3.out.trans (HBn.out.mono HB3.out.size))
    have K4 := hid ((HB4.out.block _ (block_lt K0.out)).trans K0.out)
    have KZ := heap_alloc_new w3 (.cells lfZ LfT)
    clear hl hb HB2 HB3 K2 HBn HSL
    go_upto_region 7 with (first | (with_reducible refine wpList_store_row rfl LfT (.tmp 9) _ rfl w3.heap.size (lfV LG a1) rfl rfl LfT lfZ KZ infoLf lfZ_size lfV_one ?_) | (with_reducible refine wpList_load_row rfl LfT (.tmp 4) rfl w.heap.size rfl LfT (lfV x a) (0, 0) _ K4.out Tryz.underlying24 rfl infoLf ?_) | (with_reducible refine wpList_store_row rfl LfT (.tmp 11) _ rfl ((w3.alloc (.cells lfZ LfT)).setRow w3.heap.size (lfV LG a1)).heap.size (lfV x a) rfl rfl LfT lfZ (heap_alloc_new _ _) infoLf lfZ_size lfV_one ?_))
    have HS4 : Hid (((w3.alloc (.cells lfZ LfT)).setRow w3.heap.size (lfV LG a1)).heap.size = w3.heap.size + 1) := hid (by simp)
    generalize (w3.alloc (Obj.cells lfZ LfT)).setRow w3.heap.size (lfV LG a1) = w4 at K9 HL9 HB4 K4 HS4 ⊢
    have hmk := mk64
    have K11 : Hid (((w4.alloc (.cells (lfV x a) LfT)).alloc (.cells zR64 5)).heap[w3.heap.size + 1]? = some (.cells (lfV x a) LfT (0, 0))) := hid (by rw [← HS4.out]; exact (Below.heap_alloc _ _ _ (by simp)).trans (heap_alloc_new w4 _))
    have hc5 := cell_of K11.out 5 _ rfl
    have hf5 := frozen_of_row _ _ 5 _ _ K11.out
    try simp only [Act.put]
    go_upto_region 8 with fail
    have HB7 : Hid (Below W0.heap.size W0 (((w4.alloc (.cells (lfV x a) LfT)).alloc (.cells zR64 5)).setCell ⟨w3.heap.size + 1, 5, none⟩ (.slice (some ⟨w4.heap.size + 1, 0, none⟩) 64 64))) := hid (((HB4.out.alloc HB4.out.size _).alloc (by have := HB4.out.size; simp; omega) _).setCell (by have := HB4.out.size; have := HS4.out; show W0.heap.size ≤ w3.heap.size + 1; omega) _)
    have HB47 : Hid (Below w4.heap.size w4 (((w4.alloc (.cells (lfV x a) LfT)).alloc (.cells zR64 5)).setCell ⟨w3.heap.size + 1, 5, none⟩ (.slice (some ⟨w4.heap.size + 1, 0, none⟩) 64 64))) := hid ((((Below.refl _ _).alloc (Nat.le_refl _) _).alloc (by simp) _).setCell (by have := HS4.out; show w4.heap.size ≤ w3.heap.size + 1; omega) _)
    have K117 : Hid ((((w4.alloc (.cells (lfV x a) LfT)).alloc (.cells zR64 5)).setCell ⟨w3.heap.size + 1, 5, none⟩ (.slice (some ⟨w4.heap.size + 1, 0, none⟩) 64 64)).heap[w3.heap.size + 1]? = some (.cells (lfV (withSig x sig0) ⟨a.a0, a.a1, a.a2, a.a3, some ⟨w4.heap.size + 1, 0, none⟩, a.c0, a.c1, a.c2, a.c3, 64⟩) LfT (0, 0))) := hid (block_set K11.out 5 _)
    generalize ((w4.alloc (Obj.cells (lfV x a) LfT)).alloc (Obj.cells zR64 5)).setCell ⟨w3.heap.size + 1, 5, none⟩ (Value.slice (some ⟨w4.heap.size + 1, 0, none⟩) 64 64) = w7 at HB7 HB47 K117 ⊢
    have K97 := hid ((HB47.out.block _ (block_lt K9.out)).trans K9.out)
    have HL97 := hid (HL9.out.on HB47.out)
    have HRL := hid (fun W => RightLeaf16_any (withSig x sig0) ⟨a.a0, a.a1, a.a2, a.a3, some ⟨w4.heap.size + 1, 0, none⟩, a.c0, a.c1, a.c2, a.c3, 64⟩ W hs)
    obtain ⟨aM, haM⟩ : ∃ t : LA, t = ⟨a.a0, a.a1, a.a2, a.a3, some ⟨w4.heap.size + 1, 0, none⟩, a.c0, a.c1, a.c2, a.c3, 64⟩ := ⟨_, rfl⟩
    rw [← haM] at HRL K117
    have HAM : Hid (aM.a0 = a.a0 ∧ aM.a1 = a.a1 ∧ aM.a2 = a.a2 ∧ aM.a3 = a.a3 ∧ aM.c0 = a.c0 ∧ aM.c1 = a.c1 ∧ aM.c2 = a.c2 ∧ aM.c3 = a.c3) := hid (by rw [haM]; exact ⟨rfl, rfl, rfl, rfl, rfl, rfl, rfl, rfl⟩)
    have KH9 := hid K9.out; have KHL := hid HL9.out; have KHB := hid HB47.out; have KHS := hid HS4.out; have KHW : Hid (W0.heap.size ≤ w3.heap.size + 1) := hid (by have := HB4.out.size; have := HS4.out; omega)
    clear haM hmk K11 hc5 hf5 HB47 HB4 K9 HL9 K4 KZ HS4
    have hE3 : leafB (withSig x sig0) = false → EG = 3 ∧ LG = lf0 := fun h => by
      have h1 : EG = 3 := by rw [HEG.out]; unfold signE; rw [if_pos h]
      exact ⟨h1, by rw [HLG.out]; unfold signL; rw [← HEG.out, h1, if_neg (by decide)]⟩
    have hE1 : leafB (withSig x sig0) = true → (at16 x at' = false ∨ seed.length ≠ 32) → EG = 1 ∧ LG = lf0 := fun h h2 => by
      have h1 : EG = 1 := by rw [HEG.out]; unfold signE; rw [if_neg (by rw [h]; simp), if_pos h2]
      exact ⟨h1, by rw [HLG.out]; unfold signL; rw [← HEG.out, h1, if_neg (by decide)]⟩
    have hE0 : leafB (withSig x sig0) = true → at16 x at' = true → seed.length = 32 → EG = 0 ∧ LG = withSig x (sigB seed (tbs x gs at')) := fun h h2 h3 => by
      have h1 : EG = 0 := by rw [HEG.out]; unfold signE; rw [if_neg (by rw [h]; simp), if_neg (by rw [h2]; simp [h3])]
      exact ⟨h1, by rw [HLG.out]; unfold signL; rw [← HEG.out, h1, if_pos rfl]⟩
    have HE3 := hid hE3; have HE1 := hid hE1; have HE0 := hid hE0
    clear hE3 hE1 hE0
    go_wp2_with (with_reducible refine wpList_load_row rfl LfT (.tmp 11) rfl (w3.heap.size + 1) rfl LfT (lfV (withSig x sig0) aM) (0, 0) _ K117.out Tryz.underlying24 rfl infoLf ?_)
    refine (HRL.out _).mono ?_
    rintro e w8 ⟨rfl, hb⟩
    have HB8 := hid (HB7.out.trans (hb.mono HB7.out.size)); have KHB8 := hid (KHB.out.trans (hb.mono KHB.out.size))
    have K98 := hid ((hb.block _ (block_lt K97.out)).trans K97.out); have K118 := hid ((hb.block _ (block_lt K117.out)).trans K117.out); have HL98 := hid (HL97.out.on hb)
    have K48 := hid ((HB8.out.block _ (block_lt K0.out)).trans K0.out)
    clear hb HB7 K97 K117 HL97 HRL KHB
    obtain ⟨lb, hlb⟩ : ∃ t, t = leafB (withSig x sig0) := ⟨_, rfl⟩
    have HLB := hid hlb
    rw [← hlb] at HE3 HE1 HE0 ⊢
    clear hlb
    have c43 : w8.cell? ⟨w.heap.size, 3, none⟩ = some (.int .u8 (x.src : Int)) := cell_of K48.out 3 _ rfl
    cases lb with
    | false =>
      obtain ⟨hEz, hLz⟩ := HE3.out rfl
      clear HE3 HE1 HE0 HLG HEG
      obtain ⟨q0, q1, q2, q3, q4, q5⟩ := lf_six K98.out
      rw [hLz] at HL98 q0 q1 q2 q3 q4 q5
      subst hEz
      go_wp2_with fail
      refine (SameLeaf16_any lf0 lf0 a1 la0 _ HL98.out.in_ (lf0_in _) lf0_le).mono ?_
      rintro e w9 ⟨rfl, hb⟩
      rw [show sameLf lf0 lf0 = true from rfl]
      have HB9 := hid (HB8.out.trans (hb.mono HB8.out.size))
      clear hb
      go_wp2
      go_ret
      exact ⟨rfl, HB0.out.trans (HB9.out.mono HB0.out.size)⟩
    | true =>
      by_cases g32 : seed.length = 32
      case neg =>
        have i32 : ((seed.length : Int) != 32) = true := by rw [bne_iff_ne]; omega
        by_cases h1 : x.src = 1
        · have hc2 : ((x.src : Int) != 1) = false := by rw [h1]; rfl
          obtain ⟨hEz, hLz⟩ := HE1.out rfl (.inr g32)
          clear HE3 HE1 HE0 HLG HEG h1
          obtain ⟨q0, q1, q2, q3, q4, q5⟩ := lf_six K98.out
          rw [hLz] at HL98 q0 q1 q2 q3 q4 q5
          subst hEz
          go_wp2_with fail
          refine (SameLeaf16_any lf0 lf0 a1 la0 _ HL98.out.in_ (lf0_in _) lf0_le).mono ?_
          rintro e w9 ⟨rfl, hb⟩
          rw [show sameLf lf0 lf0 = true from rfl]
          have HB9 := hid (HB8.out.trans (hb.mono HB8.out.size))
          clear hb
          go_wp2
          go_ret
          exact ⟨rfl, HB0.out.trans (HB9.out.mono HB0.out.size)⟩
        · have hc2 : ((x.src : Int) != 1) = true := by rw [bne_iff_ne]; omega
          by_cases h2 : at' < 0
          · clear h1
            obtain ⟨hEz, hLz⟩ := HE1.out rfl (.inr g32)
            clear HE3 HE1 HE0 HLG HEG 
            obtain ⟨q0, q1, q2, q3, q4, q5⟩ := lf_six K98.out
            rw [hLz] at HL98 q0 q1 q2 q3 q4 q5
            subst hEz
            go_wp2_with fail
            refine (SameLeaf16_any lf0 lf0 a1 la0 _ HL98.out.in_ (lf0_in _) lf0_le).mono ?_
            rintro e w9 ⟨rfl, hb⟩
            rw [show sameLf lf0 lf0 = true from rfl]
            have HB9 := hid (HB8.out.trans (hb.mono HB8.out.size))
            clear hb
            go_wp2
            go_ret
            exact ⟨rfl, HB0.out.trans (HB9.out.mono HB0.out.size)⟩
          · by_cases h3 : at' > 65535
            · have h3' : 65535 < at' := h3
              clear h1
              obtain ⟨hEz, hLz⟩ := HE1.out rfl (.inr g32)
              clear HE3 HE1 HE0 HLG HEG 
              obtain ⟨q0, q1, q2, q3, q4, q5⟩ := lf_six K98.out
              rw [hLz] at HL98 q0 q1 q2 q3 q4 q5
              subst hEz
              go_wp2_with fail
              refine (SameLeaf16_any lf0 lf0 a1 la0 _ HL98.out.in_ (lf0_in _) lf0_le).mono ?_
              rintro e w9 ⟨rfl, hb⟩
              rw [show sameLf lf0 lf0 = true from rfl]
              have HB9 := hid (HB8.out.trans (hb.mono HB8.out.size))
              clear hb
              go_wp2
              go_ret
              exact ⟨rfl, HB0.out.trans (HB9.out.mono HB0.out.size)⟩
            · have h3' : ¬ 65535 < at' := h3
              clear h1
              obtain ⟨hEz, hLz⟩ := HE1.out rfl (.inr g32)
              clear HE3 HE1 HE0 HLG HEG 
              obtain ⟨q0, q1, q2, q3, q4, q5⟩ := lf_six K98.out
              rw [hLz] at HL98 q0 q1 q2 q3 q4 q5
              subst hEz
              go_wp2_with fail
              refine (SameLeaf16_any lf0 lf0 a1 la0 _ HL98.out.in_ (lf0_in _) lf0_le).mono ?_
              rintro e w9 ⟨rfl, hb⟩
              rw [show sameLf lf0 lf0 = true from rfl]
              have HB9 := hid (HB8.out.trans (hb.mono HB8.out.size))
              clear hb
              go_wp2
              go_ret
              exact ⟨rfl, HB0.out.trans (HB9.out.mono HB0.out.size)⟩
      case pos =>
        have i32 : ((seed.length : Int) != 32) = false := by rw [g32]; rfl
        by_cases h1 : x.src = 1
        · have hc2 : ((x.src : Int) != 1) = false := by rw [h1]; rfl
          have hE0' := HE0.out rfl (by unfold at16; rw [decide_eq_true h1]; rfl) g32
          obtain ⟨hEz, hLz⟩ := hE0'
          have HTX : Hid (∀ W, Below W0.heap.size W0 W → Calls Tryz.prog 12 #[.agg (lfV x a), .slice A3 gs.length c3, .int .i64 at'] W (RetQ W (textL x gs at'))) := hid fun W h => Text16_any x a A3 gs c3 at' W (HX.out.on h).in_ hl2 (sq_up Q3.out h).lie (by omega) (.inl h1)
          have HLT : Hid ((textL x gs at').length ≤ 500) := hid (leaf_text (x := withSig x sig0) HLB.out.symm (by omega))
          have HLA : Hid (∀ AT cT W, Below W0.heap.size W0 W → Sq W W.heap.size AT cT (bvs (textL x gs at')) → Calls Tryz.prog 11 #[.slice A2 seed.length c2, .string labS, .slice AT (textL x gs at').length cT] W (SgR W (some (sigB seed (tbs x gs at'))))) := hid fun AT cT W h h2 => by
            have h3 := hLb A2 seed c2 AT (textL x gs at') cT W (HGL.out W h) (sq_up Q2.out h) h2 (by omega) HLT.out
            rw [if_pos g32] at h3
            exact h3
          have HPB : Hid (∀ W, Below W0.heap.size W0 W → Calls Tryz.prog 13 #[.slice A2 seed.length c2] W (SgR W (some (pubB seed)))) := hid fun W h => by
            have h3 := hP A2 seed c2 W (HGL.out W h) (sq_up Q2.out h) (by omega)
            rw [if_pos g32] at h3
            exact h3
          have HCK : Hid (∀ b W, Below W0.heap.size W0 W → LfS W LG b → Calls Tryz.prog 15 #[.agg (lfV LG b), .slice A3 gs.length c3, .int .i64 at'] W (RetB W (chkB LG gs at'))) := hid fun b W h h2 => hC LG b A3 gs c3 at' W (HGL.out W h) h2 (by rw [hLz]; exact ⟨hl2.1, hl2.2.1, hl2.2.2.1, hl2.2.2.2.1, by rw [show (withSig x (sigB seed (tbs x gs at'))).sig = sigB seed (tbs x gs at') from rfl, sigB_length]; omega, hl2.2.2.2.2.2⟩) (sq_up Q3.out h) (by omega) hat
          have HCT : Hid (x.sign = pubB seed → chkB LG gs at' = true) := hid fun hk => by
            rw [HLG.out]
            exact sign_check x seed gs at' (by rw [← HEG.out]; exact hEz) hk
          have hSGl : (sigB seed (tbs x gs at')).length = 64 := sigB_length _ _
          have hPUl : (pubB seed).length = 32 := pubB_length _
          obtain ⟨SG, hSG⟩ : ∃ t, t = sigB seed (tbs x gs at') := ⟨_, rfl⟩
          obtain ⟨PU, hPU⟩ : ∃ t, t = pubB seed := ⟨_, rfl⟩
          obtain ⟨tx, htx⟩ : ∃ t, t = textL x gs at' := ⟨_, rfl⟩
          rw [← hSG] at HLA hLz hSGl
          rw [← hPU] at HPB HCT hPUl
          rw [← htx] at HTX HLT HLA
          have HSGL := hid hSGl; have HPUL := hid hPUl
          have HSM : Hid (∀ b d W, LfS W (withSig x SG) b → LfS W (withSig x SG) d → Calls Tryz.prog 10 #[.agg (lfV (withSig x SG) b), .agg (lfV (withSig x SG) d)] W (RetB W true)) := hid fun b d W h1 h2 => by
            have h := SameLeaf16_any (withSig x SG) (withSig x SG) b d W h1.in_ h2.in_ (lf_le200 hl2 (by have := HSGL.out; omega))
            rw [show sameLf (withSig x SG) (withSig x SG) = true by unfold sameLf; simp] at h
            exact h
          have HXL : Hid (x.sign.length ≤ 200) := hid hl2.2.1
          unfold SgR at HLA HPB
          simp only [Option.getD_some, Option.isSome_some, if_true, g32] at HLA HPB
          subst hEz
          rw [hLz] at HCK HCT KH9 KHL K98
          clear hSG hPU htx hSGl hPUl HE3 HE1 HE0 HLG HEG hLz HL98 h1
          have K48' := hid K48.out
          go_upto_region 12 with fail
          go_wp2_with (with_reducible refine wpList_load_row rfl LfT (.tmp 4) rfl w.heap.size rfl LfT (lfV x a) (0, 0) _ K48'.out Tryz.underlying24 rfl infoLf ?_)
          refine (HTX.out _ HB8.out).mono ?_
          rintro e wa ⟨AT, cT, rfl, hq, hb⟩
          have HBa := hid (HB8.out.trans (hb.mono HB8.out.size)); have KHBa := hid (KHB8.out.trans (hb.mono KHB8.out.size)); have HQT := hid hq
          have K11a := hid ((hb.block _ (block_lt K118.out)).trans K118.out)
          clear hb hq HB8 KHB8 K118 K98 K48 K48' HTX c43
          go_wp2_with fail
          refine (HLA.out AT cT _ HBa.out HQT.out).mono ?_
          rintro e wb ⟨AL, cL, rfl, hq, hb⟩
          have HBb := hid (HBa.out.trans (hb.mono HBa.out.size)); have KHBb := hid (KHBa.out.trans (hb.mono KHBa.out.size)); have HQL := hid hq
          have K11b := hid ((hb.block _ (block_lt K11a.out)).trans K11a.out)
          clear hb hq HBa KHBa K11a HQT HLA
          have hc5 := cell_of K11b.out 5 _ rfl
          have hf5 := frozen_of_row _ _ 5 _ _ K11b.out
          go_upto_region 14 with fail
          have HBc : Hid (Below W0.heap.size W0 (wb.setCell ⟨w3.heap.size + 1, 5, none⟩ (.slice AL SG.length cL))) := hid (HBb.out.setCell KHW.out _)
          have KHBc : Hid (Below w4.heap.size w4 (wb.setCell ⟨w3.heap.size + 1, 5, none⟩ (.slice AL SG.length cL))) := hid (KHBb.out.setCell (by have := KHS.out; show w4.heap.size ≤ w3.heap.size + 1; omega) _)
          have K11c : Hid ((wb.setCell ⟨w3.heap.size + 1, 5, none⟩ (.slice AL SG.length cL)).heap[w3.heap.size + 1]? = some (.cells (lfV (withSig x SG) ⟨aM.a0, aM.a1, aM.a2, aM.a3, AL, aM.c0, aM.c1, aM.c2, aM.c3, cL⟩) LfT (0, 0))) := hid (block_set K11b.out 5 _)
          have HQc : Hid (Sq (wb.setCell ⟨w3.heap.size + 1, 5, none⟩ (.slice AL SG.length cL)) (wb.setCell ⟨w3.heap.size + 1, 5, none⟩ (.slice AL SG.length cL)).heap.size AL cL (bvs SG)) := hid ((sq_set_row HQL.out (by rw [bvs_length]; have := HSGL.out; omega) K11b.out 5 _).more (by simp))
          clear hc5 hf5
          generalize wb.setCell ⟨w3.heap.size + 1, 5, none⟩ (.slice AL SG.length cL) = wc at HBc KHBc K11c HQc ⊢
          have K9c := hid ((KHBc.out.block _ (block_lt KH9.out)).trans KH9.out)
          have HLc := hid (KHL.out.on KHBc.out); have HXc := hid (HX.out.on HBc.out)
          have HNc : Hid (LfS wc (withSig x SG) ⟨aM.a0, aM.a1, aM.a2, aM.a3, AL, aM.c0, aM.c1, aM.c2, aM.c3, cL⟩) := hid (by
            obtain ⟨e0, e1, e2, e3, e4, e5, e6, e7⟩ := HAM.out
            rw [e0, e1, e2, e3, e4, e5, e6, e7]
            exact ⟨HXc.out.1, HXc.out.2.1, HXc.out.2.2.1, HXc.out.2.2.2.1, HQc.out⟩)
          obtain ⟨aN, haN⟩ : ∃ t : LA, t = ⟨aM.a0, aM.a1, aM.a2, aM.a3, AL, aM.c0, aM.c1, aM.c2, aM.c3, cL⟩ := ⟨_, rfl⟩
          rw [← haN] at K11c HNc
          clear haN HBb KHBb K11b HQL HQc KHBc KHL KH9 HAM
          obtain ⟨s0, s1, s2, s3, s4, s5⟩ := lf_six K9c.out
          obtain ⟨u0, u1, u2, u3, u4, u5⟩ := lf_six K11c.out
          go_wp2_with fail
          refine (HSM.out a1 aN _ HLc.out HNc.out).mono ?_
          rintro e wd ⟨rfl, hb⟩
          have HBd := hid (HBc.out.trans (hb.mono HBc.out.size)); have HLd := hid (HLc.out.on hb); have K9d := hid ((hb.block _ (block_lt K9c.out)).trans K9c.out)
          clear hb HBc HLc K9c K11c HNc HSM HXc s0 s1 s2 s3 s4 s5 u0 u1 u2 u3 u4 u5
          go_wp2_with fail
          refine (HPB.out _ HBd.out).mono ?_
          rintro e we ⟨AP, cP, rfl, hq, hb⟩
          have HBe := hid (HBd.out.trans (hb.mono HBd.out.size)); have HLe := hid (HLd.out.on hb); have K9e := hid ((hb.block _ (block_lt K9d.out)).trans K9d.out); have HQP := hid hq
          have K4e := hid ((HBe.out.block _ (block_lt K0.out)).trans K0.out); have HXe := hid (HX.out.on HBe.out)
          clear hb hq HBd HLd K9d HPB
          have c41 : we.cell? ⟨w.heap.size, 1, none⟩ = some (.slice a.a1 x.sign.length a.c1) := cell_of K4e.out 1 _ rfl
          go_wp2_with fail
          refine (SameB _ _ _ _ _ _ _ HQP.out.lie HXe.out.2.1.lie (by have := HPUL.out; omega)).mono ?_
          rintro e wf ⟨rfl, hb⟩
          have HBf := hid (HBe.out.trans (hb.mono HBe.out.size)); have HLf := hid (HLe.out.on hb); have K9f := hid ((hb.block _ (block_lt K9e.out)).trans K9e.out)
          clear hb HBe HLe K9e c41
          obtain ⟨pe, hpe⟩ : ∃ t, t = (PU == x.sign) := ⟨_, rfl⟩
          rw [← hpe]
          cases pe with
          | false =>
            clear hpe
            go_wp2
            go_ret
            exact ⟨rfl, HB0.out.trans (HBf.out.mono HB0.out.size)⟩
          | true =>
            have HCE := hid (HCT.out (by rw [eq_comm, beq_iff_eq] at hpe; exact hpe.symm))
            clear hpe HCT
            obtain ⟨s0, s1, s2, s3, s4, s5⟩ := lf_six K9f.out
            go_wp2_with fail
            refine (HCK.out a1 _ HBf.out HLf.out).mono ?_
            rintro e wg ⟨rfl, hb⟩
            rw [HCE.out]
            have HBg := hid (HBf.out.trans (hb.mono HBf.out.size))
            clear hb
            go_wp2
            go_ret
            exact ⟨rfl, HB0.out.trans (HBg.out.mono HB0.out.size)⟩
        · have hc2 : ((x.src : Int) != 1) = true := by rw [bne_iff_ne]; omega
          by_cases h2 : at' < 0
          · have h16 : at16 x at' = false := by unfold at16; rw [decide_eq_false h1, decide_eq_false (show ¬ 0 ≤ at' by omega)]; rfl
            clear h1
            obtain ⟨hEz, hLz⟩ := HE1.out rfl (.inl h16)
            clear HE3 HE1 HE0 HLG HEG h16
            obtain ⟨q0, q1, q2, q3, q4, q5⟩ := lf_six K98.out
            rw [hLz] at HL98 q0 q1 q2 q3 q4 q5
            subst hEz
            go_wp2_with fail
            refine (SameLeaf16_any lf0 lf0 a1 la0 _ HL98.out.in_ (lf0_in _) lf0_le).mono ?_
            rintro e w9 ⟨rfl, hb⟩
            rw [show sameLf lf0 lf0 = true from rfl]
            have HB9 := hid (HB8.out.trans (hb.mono HB8.out.size))
            clear hb
            go_wp2
            go_ret
            exact ⟨rfl, HB0.out.trans (HB9.out.mono HB0.out.size)⟩
          · by_cases h3 : at' > 65535
            · have h3' : 65535 < at' := h3
              have h16 : at16 x at' = false := by unfold at16; rw [decide_eq_false h1, decide_eq_false (show ¬ at' ≤ 65535 by omega), Bool.and_false]; rfl
              clear h1
              obtain ⟨hEz, hLz⟩ := HE1.out rfl (.inl h16)
              clear HE3 HE1 HE0 HLG HEG h16
              obtain ⟨q0, q1, q2, q3, q4, q5⟩ := lf_six K98.out
              rw [hLz] at HL98 q0 q1 q2 q3 q4 q5
              subst hEz
              go_wp2_with fail
              refine (SameLeaf16_any lf0 lf0 a1 la0 _ HL98.out.in_ (lf0_in _) lf0_le).mono ?_
              rintro e w9 ⟨rfl, hb⟩
              rw [show sameLf lf0 lf0 = true from rfl]
              have HB9 := hid (HB8.out.trans (hb.mono HB8.out.size))
              clear hb
              go_wp2
              go_ret
              exact ⟨rfl, HB0.out.trans (HB9.out.mono HB0.out.size)⟩
            · have h3' : ¬ 65535 < at' := h3
              have hE0' := HE0.out rfl (by unfold at16; rw [decide_eq_true (show 0 ≤ at' by omega), decide_eq_true (show at' ≤ 65535 by omega)]; simp) g32
              obtain ⟨hEz, hLz⟩ := hE0'
              have HTX : Hid (∀ W, Below W0.heap.size W0 W → Calls Tryz.prog 12 #[.agg (lfV x a), .slice A3 gs.length c3, .int .i64 at'] W (RetQ W (textL x gs at'))) := hid fun W h => Text16_any x a A3 gs c3 at' W (HX.out.on h).in_ hl2 (sq_up Q3.out h).lie (by omega) (.inr ⟨by omega, by omega⟩)
              have HLT : Hid ((textL x gs at').length ≤ 500) := hid (leaf_text (x := withSig x sig0) HLB.out.symm (by omega))
              have HLA : Hid (∀ AT cT W, Below W0.heap.size W0 W → Sq W W.heap.size AT cT (bvs (textL x gs at')) → Calls Tryz.prog 11 #[.slice A2 seed.length c2, .string labS, .slice AT (textL x gs at').length cT] W (SgR W (some (sigB seed (tbs x gs at'))))) := hid fun AT cT W h h2 => by
                have h3 := hLb A2 seed c2 AT (textL x gs at') cT W (HGL.out W h) (sq_up Q2.out h) h2 (by omega) HLT.out
                rw [if_pos g32] at h3
                exact h3
              have HPB : Hid (∀ W, Below W0.heap.size W0 W → Calls Tryz.prog 13 #[.slice A2 seed.length c2] W (SgR W (some (pubB seed)))) := hid fun W h => by
                have h3 := hP A2 seed c2 W (HGL.out W h) (sq_up Q2.out h) (by omega)
                rw [if_pos g32] at h3
                exact h3
              have HCK : Hid (∀ b W, Below W0.heap.size W0 W → LfS W LG b → Calls Tryz.prog 15 #[.agg (lfV LG b), .slice A3 gs.length c3, .int .i64 at'] W (RetB W (chkB LG gs at'))) := hid fun b W h h2 => hC LG b A3 gs c3 at' W (HGL.out W h) h2 (by rw [hLz]; exact ⟨hl2.1, hl2.2.1, hl2.2.2.1, hl2.2.2.2.1, by rw [show (withSig x (sigB seed (tbs x gs at'))).sig = sigB seed (tbs x gs at') from rfl, sigB_length]; omega, hl2.2.2.2.2.2⟩) (sq_up Q3.out h) (by omega) hat
              have HCT : Hid (x.sign = pubB seed → chkB LG gs at' = true) := hid fun hk => by
                rw [HLG.out]
                exact sign_check x seed gs at' (by rw [← HEG.out]; exact hEz) hk
              have hSGl : (sigB seed (tbs x gs at')).length = 64 := sigB_length _ _
              have hPUl : (pubB seed).length = 32 := pubB_length _
              obtain ⟨SG, hSG⟩ : ∃ t, t = sigB seed (tbs x gs at') := ⟨_, rfl⟩
              obtain ⟨PU, hPU⟩ : ∃ t, t = pubB seed := ⟨_, rfl⟩
              obtain ⟨tx, htx⟩ : ∃ t, t = textL x gs at' := ⟨_, rfl⟩
              rw [← hSG] at HLA hLz hSGl
              rw [← hPU] at HPB HCT hPUl
              rw [← htx] at HTX HLT HLA
              have HSGL := hid hSGl; have HPUL := hid hPUl
              have HSM : Hid (∀ b d W, LfS W (withSig x SG) b → LfS W (withSig x SG) d → Calls Tryz.prog 10 #[.agg (lfV (withSig x SG) b), .agg (lfV (withSig x SG) d)] W (RetB W true)) := hid fun b d W h1 h2 => by
                have h := SameLeaf16_any (withSig x SG) (withSig x SG) b d W h1.in_ h2.in_ (lf_le200 hl2 (by have := HSGL.out; omega))
                rw [show sameLf (withSig x SG) (withSig x SG) = true by unfold sameLf; simp] at h
                exact h
              have HXL : Hid (x.sign.length ≤ 200) := hid hl2.2.1
              unfold SgR at HLA HPB
              simp only [Option.getD_some, Option.isSome_some, if_true, g32] at HLA HPB
              subst hEz
              rw [hLz] at HCK HCT KH9 KHL K98
              clear hSG hPU htx hSGl hPUl HE3 HE1 HE0 HLG HEG hLz HL98 h1
              have K48' := hid K48.out
              go_upto_region 12 with fail
              go_wp2_with (with_reducible refine wpList_load_row rfl LfT (.tmp 4) rfl w.heap.size rfl LfT (lfV x a) (0, 0) _ K48'.out Tryz.underlying24 rfl infoLf ?_)
              refine (HTX.out _ HB8.out).mono ?_
              rintro e wa ⟨AT, cT, rfl, hq, hb⟩
              have HBa := hid (HB8.out.trans (hb.mono HB8.out.size)); have KHBa := hid (KHB8.out.trans (hb.mono KHB8.out.size)); have HQT := hid hq
              have K11a := hid ((hb.block _ (block_lt K118.out)).trans K118.out)
              clear hb hq HB8 KHB8 K118 K98 K48 K48' HTX c43
              go_wp2_with fail
              refine (HLA.out AT cT _ HBa.out HQT.out).mono ?_
              rintro e wb ⟨AL, cL, rfl, hq, hb⟩
              have HBb := hid (HBa.out.trans (hb.mono HBa.out.size)); have KHBb := hid (KHBa.out.trans (hb.mono KHBa.out.size)); have HQL := hid hq
              have K11b := hid ((hb.block _ (block_lt K11a.out)).trans K11a.out)
              clear hb hq HBa KHBa K11a HQT HLA
              have hc5 := cell_of K11b.out 5 _ rfl
              have hf5 := frozen_of_row _ _ 5 _ _ K11b.out
              go_upto_region 14 with fail
              have HBc : Hid (Below W0.heap.size W0 (wb.setCell ⟨w3.heap.size + 1, 5, none⟩ (.slice AL SG.length cL))) := hid (HBb.out.setCell KHW.out _)
              have KHBc : Hid (Below w4.heap.size w4 (wb.setCell ⟨w3.heap.size + 1, 5, none⟩ (.slice AL SG.length cL))) := hid (KHBb.out.setCell (by have := KHS.out; show w4.heap.size ≤ w3.heap.size + 1; omega) _)
              have K11c : Hid ((wb.setCell ⟨w3.heap.size + 1, 5, none⟩ (.slice AL SG.length cL)).heap[w3.heap.size + 1]? = some (.cells (lfV (withSig x SG) ⟨aM.a0, aM.a1, aM.a2, aM.a3, AL, aM.c0, aM.c1, aM.c2, aM.c3, cL⟩) LfT (0, 0))) := hid (block_set K11b.out 5 _)
              have HQc : Hid (Sq (wb.setCell ⟨w3.heap.size + 1, 5, none⟩ (.slice AL SG.length cL)) (wb.setCell ⟨w3.heap.size + 1, 5, none⟩ (.slice AL SG.length cL)).heap.size AL cL (bvs SG)) := hid ((sq_set_row HQL.out (by rw [bvs_length]; have := HSGL.out; omega) K11b.out 5 _).more (by simp))
              clear hc5 hf5
              generalize wb.setCell ⟨w3.heap.size + 1, 5, none⟩ (.slice AL SG.length cL) = wc at HBc KHBc K11c HQc ⊢
              have K9c := hid ((KHBc.out.block _ (block_lt KH9.out)).trans KH9.out)
              have HLc := hid (KHL.out.on KHBc.out); have HXc := hid (HX.out.on HBc.out)
              have HNc : Hid (LfS wc (withSig x SG) ⟨aM.a0, aM.a1, aM.a2, aM.a3, AL, aM.c0, aM.c1, aM.c2, aM.c3, cL⟩) := hid (by
                obtain ⟨e0, e1, e2, e3, e4, e5, e6, e7⟩ := HAM.out
                rw [e0, e1, e2, e3, e4, e5, e6, e7]
                exact ⟨HXc.out.1, HXc.out.2.1, HXc.out.2.2.1, HXc.out.2.2.2.1, HQc.out⟩)
              obtain ⟨aN, haN⟩ : ∃ t : LA, t = ⟨aM.a0, aM.a1, aM.a2, aM.a3, AL, aM.c0, aM.c1, aM.c2, aM.c3, cL⟩ := ⟨_, rfl⟩
              rw [← haN] at K11c HNc
              clear haN HBb KHBb K11b HQL HQc KHBc KHL KH9 HAM
              obtain ⟨s0, s1, s2, s3, s4, s5⟩ := lf_six K9c.out
              obtain ⟨u0, u1, u2, u3, u4, u5⟩ := lf_six K11c.out
              go_wp2_with fail
              refine (HSM.out a1 aN _ HLc.out HNc.out).mono ?_
              rintro e wd ⟨rfl, hb⟩
              have HBd := hid (HBc.out.trans (hb.mono HBc.out.size)); have HLd := hid (HLc.out.on hb); have K9d := hid ((hb.block _ (block_lt K9c.out)).trans K9c.out)
              clear hb HBc HLc K9c K11c HNc HSM HXc s0 s1 s2 s3 s4 s5 u0 u1 u2 u3 u4 u5
              go_wp2_with fail
              refine (HPB.out _ HBd.out).mono ?_
              rintro e we ⟨AP, cP, rfl, hq, hb⟩
              have HBe := hid (HBd.out.trans (hb.mono HBd.out.size)); have HLe := hid (HLd.out.on hb); have K9e := hid ((hb.block _ (block_lt K9d.out)).trans K9d.out); have HQP := hid hq
              have K4e := hid ((HBe.out.block _ (block_lt K0.out)).trans K0.out); have HXe := hid (HX.out.on HBe.out)
              clear hb hq HBd HLd K9d HPB
              have c41 : we.cell? ⟨w.heap.size, 1, none⟩ = some (.slice a.a1 x.sign.length a.c1) := cell_of K4e.out 1 _ rfl
              go_wp2_with fail
              refine (SameB _ _ _ _ _ _ _ HQP.out.lie HXe.out.2.1.lie (by have := HPUL.out; omega)).mono ?_
              rintro e wf ⟨rfl, hb⟩
              have HBf := hid (HBe.out.trans (hb.mono HBe.out.size)); have HLf := hid (HLe.out.on hb); have K9f := hid ((hb.block _ (block_lt K9e.out)).trans K9e.out)
              clear hb HBe HLe K9e c41
              obtain ⟨pe, hpe⟩ : ∃ t, t = (PU == x.sign) := ⟨_, rfl⟩
              rw [← hpe]
              cases pe with
              | false =>
                clear hpe
                go_wp2
                go_ret
                exact ⟨rfl, HB0.out.trans (HBf.out.mono HB0.out.size)⟩
              | true =>
                have HCE := hid (HCT.out (by rw [eq_comm, beq_iff_eq] at hpe; exact hpe.symm))
                clear hpe HCT
                obtain ⟨s0, s1, s2, s3, s4, s5⟩ := lf_six K9f.out
                go_wp2_with fail
                refine (HCK.out a1 _ HBf.out HLf.out).mono ?_
                rintro e wg ⟨rfl, hb⟩
                rw [HCE.out]
                have HBg := hid (HBf.out.trans (hb.mono HBf.out.size))
                clear hb
                go_wp2
                go_ret
                exact ⟨rfl, HB0.out.trans (HBg.out.mono HB0.out.size)⟩
end Go.Proofs.YtgehfbcagaaggaaGreatDoor
end
section
namespace Go.Proofs.YtgehfbcagaaggaaGreatDoor
open Go Go.RowKit
set_option linter.unusedVariables false
set_option linter.unusedSimpArgs false
theorem PrF.put {w w' : World} {B base : Nat} {y : Pnt} {b : PA} (h : PrF w B base y b) (hb : Below w.heap.size w w') (hB : B ≤ w.heap.size) (_h : B ≤ B) : PrF w' B base y b :=
  ⟨h.1.below (hb.mono hB), h.2.1.below (hb.mono hB), (h.2.2.1.below hb).more hb.size, h.2.2.2⟩
end Go.Proofs.YtgehfbcagaaggaaGreatDoor
end
