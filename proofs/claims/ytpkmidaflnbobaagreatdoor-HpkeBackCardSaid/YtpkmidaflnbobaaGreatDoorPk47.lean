/-
  Texts of this claim in one file: GcI.
-/
import Derived.RangeFuncBox
import Derived.RangeFuncNested
import Derived.RangeFuncBound
import Derived.RangeFuncCalls
import Derived.RangeFuncLeaves
import Derived.Shelf.Abstract
import Derived.WalkKit
import Derived.OwnWalkIn
import Derived.TacticsInMore
import Derived.LoopNIn
import Derived.LoopIn
import Derived.Test.YtpkmidaflnbobaaGreatDoorPk37
section
namespace Go.Proofs.YtpkmidaflnbobaaGreatDoor
open Go Go.RowKit Go.Shelf
set_option linter.unusedVariables false
set_option linter.unusedSimpArgs false
attribute [local go_sem] Oper.semAt_some
/-- The k-th part of L bytes from b, o on. -/
def ckV (b o L k : Nat) : Value := .slice (some ⟨b, o + 16 * k, none⟩) (min 16 (L - 16 * k)) (min 16 (L - 16 * k))
/-- What the iterator reads stays. -/
def Kp2 (B1 B2 : Nat) (W W' : World) : Prop := W'.cell? ⟨B1, 0, none⟩ = W.cell? ⟨B1, 0, none⟩ ∧ W'.cell? ⟨B2, 0, none⟩ = W.cell? ⟨B2, 0, none⟩
theorem kp2_t {B1 B2 : Nat} {A B C : World} (h : Kp2 B1 B2 A B) (k : Kp2 B1 B2 B C) : Kp2 B1 B2 A C := ⟨k.1.trans h.1, k.2.trans h.2⟩
theorem kp2_b {B1 B2 : Nat} {w : World} (h1 : B1 < w.heap.size) (h2 : B2 < w.heap.size) (W : World) (l : Nat) (o o' : Obj) (hl : w.heap.size ≤ l) (h : W.heap[l]? = some o) (_ : o.isCells = false) (_ : o.isWalk = false) : Kp2 B1 B2 W (W.putObj l o') := by
  have k := belowK_b (w := w) (Nat.le_refl _) W l o o' hl h (by assumption) (by assumption)
  exact ⟨k.cell (p := ⟨B1, 0, none⟩) h1, k.cell (p := ⟨B2, 0, none⟩) h2⟩
set_option maxRecDepth 100000 in
set_option maxHeartbeats 2000000 in
theorem chunk1_in (n l B1 B2 b o L c : Nat) (A : Option Addr) (hA : 0 < L → A = some ⟨b, o, none⟩) (hL : L ≤ 1000) (hc : L ≤ c) (hc2 : c ≤ 9223372036854775807) (J Jx : List Nat → World → Prop) (B : Nat) (hJa : AbidesFrom B J)
    (hY : ∀ pre x W, J pre W → pre.length < (L + 15) / 16 → YieldAt Fence.wide (n - 1) Tryz.prog l #[ckV b o L x] W fun e W' =>
      (e = .returned (.bool true) ∧ J (pre ++ [x]) W' ∧ Kp2 B1 B2 W W') ∨ (e = .returned (.bool false) ∧ Jx (pre ++ [x]) W'))
    (W : World) (h1 : W.cell? ⟨B1, 0, none⟩ = some (.slice A L c)) (h2 : W.cell? ⟨B2, 0, none⟩ = some (.int .i64 16)) (h0 : J [] W) :
    CallsIn Fence.wide n Tryz.prog 89 #[.func (.yield l) #[] #[], .pointer (some ⟨B1, 0, none⟩), .pointer (some ⟨B2, 0, none⟩)] W fun e W' => (∃ v, e = .returned v) ∧
      ((∃ ys, ys = List.range ((L + 15) / 16) ∧ J ys W') ∨ (∃ pre, True ∧ Jx pre W')) := by
  refine callsIn_of_wp Tryz.func89 rfl trivial ?_ rfl
  simp only [Tryz.ntmps89, List.size_toArray, List.length_cons, List.length_nil, Nat.reduceAdd, Nat.reduceSub, Array.replicate_succ, Array.replicate_zero, List.push_toArray, List.append_toArray, List.nil_append, List.cons_append]
  gi_wp2
  gi_loopw [4] (fun i wr => ∃ k : Nat, k ≤ (L + 15) / 16 ∧ i = .int .i64 ((16 * k : Nat) : Int) ∧ J (List.range k) wr ∧ Kp2 B1 B2 W wr)
    (fun i _ => 16 * ((L + 15) / 16) - (intOf i).toNat)
  case atStart => exact ⟨0, Nat.zero_le _, rfl, h0, rfl, rfl⟩
  case round =>
    obtain ⟨k, hk, rfl, hJ, hK⟩ := hrel
    have r1 := hK.1.trans h1
    have r2 := hK.2.trans h2
    by_cases hlt : 16 * k < L
    · have hp : (List.range k).length < (L + 15) / 16 := by simp; omega
      obtain rfl := hA (by omega)
      obtain ⟨s, hs⟩ : ∃ s, s = 16 * k := ⟨_, rfl⟩
      have hsL : s < L := by omega
      have hx : (s : Int) < (L : Int) := by omega
      obtain ⟨m, hm⟩ : ∃ m, m = min 16 (L - s) := ⟨_, rfl⟩
      have hmin : (if ((L - s : Nat) : Int) < 16 then ((L - s : Nat) : Int) else 16) = (m : Int) := by split <;> omega
      have hs0 : (0 : Int) ≤ (s : Int) := by omega
      have hm0 : (0 : Int) ≤ (m : Int) := by omega
      have hck : ckV b o L k = .slice (some ⟨b, o + s, none⟩) m m := by rw [ckV, ← hs, ← hm]
      have hsm : IntKind.i64.wrap ((s : Int) + (m : Int)) = ((s + m : Nat) : Int) := (IntWalk.i64_in _ (by omega)).trans (by omega)
      have hle : s + m ≤ c := by omega
      have hnx : IntKind.i64.wrap ((s : Int) + 16) = ((s + 16 : Nat) : Int) := (IntWalk.i64_in _ (by omega)).trans (by omega)
      rw [← hs]
      have HS := hid hs; have HM := hid hm
      clear hs hm hlt
      gi_wp2
      refine wpIn_wide.2 ?_
      go_quiet (fail)
      rename_i K hK0
      obtain ⟨fn, tmps, assign, body, hy, hR⟩ := hY _ k (wr.drewN nq) (hJa _ _ _ none hJ ⟨rfl, rfl, rfl, Nat.le_refl _, fun _ _ _ => rfl⟩ (fun r e => by cases e)) hp
      rw [hck] at hy
      refine hK0 _ _ ?_
      gi_wp2
      refine ⟨fun h => (by cases h), hR.mono ?_⟩
      rintro e W3 (⟨rfl, hJ3, hk3⟩ | ⟨rfl, hJx3⟩)
      · have r2' : W3.cell? ⟨B2, 0, none⟩ = some (.int .i64 16) := hk3.2.trans r2
        gi_wp2
        go_roundw
        case rel => exact ⟨k + 1, (by have := HS.out; omega), by rw [HS.out]; rfl, by rw [List.range_succ]; exact hJ3, kp2_t hK hk3⟩
        case measure =>
          simp only [intOf, Int.toNat_natCast]
          have e1 : ((s : Int) + 16).toNat = s + 16 := by omega
          have e2 : s < 16 * ((L + 15) / 16) := by omega
          rw [e1]
          generalize 16 * ((L + 15) / 16) = q at *
          clear hck hsm hmin hnx
          omega
      · gi_wp2
        refine bodyPost_ret (results_none rfl _ _ _) rfl ?_
        exact ⟨⟨_, rfl⟩, .inr ⟨_, trivial, hJx3⟩⟩
    · obtain rfl : k = (L + 15) / 16 := by omega
      have hx : ¬ (((16 * ((L + 15) / 16) : Nat) : Int) < (L : Int)) := by omega
      gi_wp2
      go_end0
      exact ⟨⟨_, rfl⟩, .inl hJ⟩
theorem chunk_stops (n B1 B2 b o L c : Nat) (A : Option Addr) (hA : 0 < L → A = some ⟨b, o, none⟩) (hL : L ≤ 1000) (hc : L ≤ c) (hc2 : c ≤ 9223372036854775807) (w : World) (hB1 : B1 < w.heap.size) (hB2 : B2 < w.heap.size)
    (h1 : w.cell? ⟨B1, 0, none⟩ = some (.slice A L c)) (h2 : w.cell? ⟨B2, 0, none⟩ = some (.int .i64 16)) :
    SeqStopsK Fence.wide n Tryz.prog 89 #[.pointer (some ⟨B1, 0, none⟩), .pointer (some ⟨B2, 0, none⟩)] (fun x : Nat => #[ckV b o L x]) (Kp2 B1 B2) (fun ys => ys = List.range ((L + 15) / 16)) (fun _ => True) ((L + 15) / 16) w := fun l J Jx W hW hJa _ hY h0 =>
  chunk1_in n l B1 B2 b o L c A hA hL hc hc2 J Jx _ hJa hY W ((hW.cell (p := ⟨B1, 0, none⟩) hB1).trans h1) ((hW.cell (p := ⟨B2, 0, none⟩) hB2).trans h2) h0
theorem chunk_e (A : Option Addr) (L c : Nat) (w : World) :
    Calls Tryz.prog 65 #[.slice A L c, .int .i64 16] w fun e w' => e = .returned (.func (.func 89) #[] #[.pointer (some ⟨w.heap.size, 0, none⟩), .pointer (some ⟨w.heap.size + 1, 0, none⟩)]) ∧
      w' = (w.alloc (.cells #[.slice A L c] 22)).alloc (.cells #[.int .i64 16] 3) := by
  go_enter Tryz.func65, Tryz.ntmps65
  go_wp2
  go_ret
  exact ⟨rfl, rfl⟩
end Go.Proofs.YtpkmidaflnbobaaGreatDoor
end
