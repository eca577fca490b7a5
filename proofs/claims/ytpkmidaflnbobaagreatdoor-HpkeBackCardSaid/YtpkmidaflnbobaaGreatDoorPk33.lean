/-
  Texts of this claim in one file: Rnd.
-/
import Derived.RangeFuncNested
import Derived.OrdersIn
import Derived.Great.Walk
import Derived.Test.YtpkmidaflnbobaaGreatDoorPk43
import Derived.Test.YtpkmidaflnbobaaGreatDoorPk38
import Derived.Test.YtpkmidaflnbobaaGreatDoorPk39
section
namespace Go.Proofs.YtpkmidaflnbobaaGreatDoor
open Go Go.RowKit
set_option linter.unusedVariables false
set_option linter.unusedSimpArgs false
theorem rows_round {P : Program} {n l : Nat} {row : String} {args : Array Value} {w : World} {R : Value → World → Prop} (h : Rows P row args w R) : RowsIn (Fence.wide.inRound l) n P row args w R :=
  fun c cs _ => let ⟨v, w', r, s⟩ := h c cs; ⟨v, w', r, stepsIn_wide.2 s⟩
theorem op_round {P : Program} {n l : Nat} {o : Oper} {a : Act} {w : World} {K K' : Act → World → Prop} {Q : Exit → Act → World → Prop} (hd : ∀ c, o.op ≠ .defer c) (hK : ∀ a w, K a w → K' a w) (h : o.wp P a w K Q) : o.wpIn (Fence.wide.inRound l) n P a w K' Q := by
  refine ⟨fun _ _ => trivial, ?_⟩
  rw [show (Fence.wide.inRound l).round = some l from rfl, Oper.semAt_some l _ _ hd]
  unfold Oper.wp at h
  generalize (execOp a.eval o).run P w = r at *
  cases r with
  | ok x w' =>
    cases x <;> simp only [Oper.upon, Oper.uponIn] at h ⊢ <;>
      first
        | exact hK _ _ h
        | exact ⟨fun h => (by cases h), CallsIn.inRound l (callsIn_wide.2 (Calls.mono h (fun e w'' he => by cases e <;> first | exact hK _ _ he | exact he)))⟩
        | exact ⟨fun h => (by cases h), rows_round (Rows.mono h (fun _ _ he => hK _ _ he))⟩
        | exact h.elim
  | halt x w' => cases x <;> simp only [Oper.upon, Oper.uponIn] at h ⊢ <;> exact h
def notDefer (o : Oper) : Bool := match o.op with | .defer _ => false | _ => true
theorem wpAny_round {P : Program} {n l : Nat} {md : Region.Mode} {ops : Array Oper} {Q : Exit → Act → World → Prop} (hno : ∀ a w, ¬ Q .outgrown a w) (hd : ops.all notDefer = true) :
    ∀ (fuel : Nat) (listed : Array Bool) (a : Act) (w : World), wpAny P md ops Q fuel listed a w → wpAnyIn (Fence.wide.inRound l) n P md ops Q fuel listed a w := by
  intro fuel
  induction fuel with
  | zero => intro listed a w h; exact h
  | succ fuel ih =>
    intro listed a w h
    refine ⟨h.1, fun i hi => ?_⟩
    have h2 := h.2 i hi
    unfold wpOp at h2
    unfold wpOpIn
    cases ho : ops[i]? with
    | none => simp only [ho] at h2 ⊢; exact ih _ _ _ h2
    | some o =>
      simp only [ho] at h2 ⊢
      have hnd : ∀ c, o.op ≠ .defer c := fun c hc => by
        have hm : o ∈ ops := Array.mem_of_getElem? ho
        have := Array.all_eq_true_iff_forall_mem.1 hd o hm
        unfold notDefer at this
        rw [hc] at this
        cases this
      split
      · rename_i hw
        simp only [hw, if_true] at h2
        rcases h2 with h2 | ⟨_, a0, w0, h2⟩
        · exact op_round hnd (fun a w h => ih _ a w h) h2
        · exact (hno _ _ h2).elim
      · rename_i hw
        simp only [hw] at h2
        exact ⟨fun _ _ => trivial, ih _ _ _ h2⟩
section
variable {P : Program} {Q : Exit → Act → World → Prop} {n l : Nat}
/-- A drawn region that calls and makes memory, then a tail in one order. -/
theorem wpIn_region_grA {id : Nat} {a : Act} {w : World} {ol : List Oper} (m : Nat) (hno : ∀ a w, ¬ Q .outgrown a w) (hd : ol.toArray.all notDefer = true) (hm : P.follows .mixedOrders = true) (hn : m < ol.length)
    (h : wpGrA P .any ol.toArray Q m (GrL P .any ol.toArray Q (ol.length - m) m (ol.drop m)) w m (Array.replicate ol.length false) a) : (Code.region id ol.toArray true).wpIn (Fence.wide.inRound l) n P Q a w := by
  have inv0 : HeadInv .any ol.toArray m (Array.replicate ol.length false) :=
    ⟨by simp, fun j oj _ hl => (by rw [getD_replicate_false] at hl; cases hl), fun t _ ht => getD_in (by simpa using ht) (getD_replicate_false _ _)⟩
  refine wpIn_region_any hm (wpAny_round hno hd _ _ _ _ ?_)
  have h1 := h { w with drawn := w.drawn + 1 } (Below.refl _ w).drew
  have := wpAny_of_gr (Q := Q) (g := ol.length - m) (fun listed a' w' hL => by
    have := wpAny_of_seq (md := .any) (Q' := Q) (ol.drop m) m listed a' w' (fun j => by simp [List.getElem?_drop]) (by rw [List.length_drop]; exact hL.1) hL.2
    rwa [List.length_drop] at this) _ _ _ _ inv0 h1
  rw [show m + (ol.length - m) = ol.toArray.size by simp; omega] at this
  simpa using this
end
section
variable {P : Program} {ops : Array Oper} {Q : Exit → Act → World → Prop} {md : Region.Mode} {n : Nat}
theorem wpGr_ready1 {L : Array Bool → Act → World → Prop} {f : Nat} {rs : List Nat} {listed : Array Bool} {a : Act} {w : World} (hr : Region.ready md ops listed = rs) (hne : rs ≠ []) (hn : rs.all (· < n) = true)
    (h : ∀ i ∈ rs, wpOp P ops Q i (fun a' w' => Below w.heap.size w w' ∧ ∀ w'', Below w'.heap.size w' w'' → wpGr P md ops Q n L f (listed.setIfInBounds i true) a' w'') a w) : wpGr P md ops Q n L (f + 1) listed a w := fun _ =>
  ⟨hr ▸ hne, hr ▸ fun i hi => ⟨by simpa using List.all_eq_true.1 hn i hi, h i hi⟩⟩
theorem wpOp_sliceTo1 {i : Nat} {o : Oper} {K : Act → World → Prop} {a : Act} {w : World} (hi : ops[i]? = some o) (hg : Region.wanted o (yielded ops a.tmps) = true) (t e : TypeId) (len : Nat) (parts : Array (Nat × Operand)) (ho : o.op = .buildSlice t len parts)
    (hu : P.underlying t = some (.slice e)) (cells : Array Value) (hf : P.builtSlice e len (parts.map fun (i, x) => (i, a.eval x)).toList = some cells)
    (h : K (a.put o.dst (.slice (some ⟨w.heap.size, 0, none⟩) len len)) (w.alloc (.cells cells e))) : wpOp P ops Q i K a w := by
  unfold wpOp
  simp only [hi]
  rw [if_pos hg]
  refine .inl ?_
  unfold Program.builtSlice at hf
  cases hie : P.info? e with
  | none => simp [hie] at hf
  | some ie =>
    simp only [hie] at hf
    cases hz : ie.zero with
    | none => simp [hz] at hf
    | some z =>
      simp only [hz] at hf
      by_cases hc : len * ie.size > 2 ^ 24 ∨ len * ie.size = 0
      · simp [hc] at hf
      · rw [if_neg hc] at hf
        exact wp_buildSlice t e len parts ho cells ie z hu hie hz (fun h' => hc (Or.inl h')) (fun h' => hc (Or.inr h')) hf h
/-- The same in a drawn region: the only one that may come up. -/
theorem wpGrA_slice1 {g f : Nat} {l : List Oper} {i : Nat} {oi : Oper} {listed : Array Bool} {a : Act} {w0 : World} (hi : ops[i]? = some oi) (hrd : (Region.ready md ops listed == [i] && decide (i < n)) = true)
    (hw : Region.wanted oi (yielded ops a.tmps) = true) (t e : TypeId) (len : Nat) (parts : Array (Nat × Operand)) (ho : oi.op = .buildSlice t len parts) (hu : P.underlying t = some (.slice e))
    (ls : List (Nat × Value)) (hl : (parts.toList.map fun (i, x) => (i, a.eval x)) = ls) (xs : List Value) (hf : P.builtSlice e len ls = some xs.toArray) (hn : xs.length ≤ len) (hm : len ≤ 9223372036854775807)
    (h : ∀ p w2, Below w0.heap.size w0 w2 → Sq w2 w2.heap.size (some ⟨p, 0, none⟩) len xs → wpGrA P md ops Q n (GrL P md ops Q g n l) w2 f (listed.setIfInBounds i true) (a.put oi.dst (.slice (some ⟨p, 0, none⟩) len len))) : wpGrA P md ops Q n (GrL P md ops Q g n l) w0 (f + 1) listed a := fun w hb => by
  simp only [Bool.and_eq_true, decide_eq_true_eq, beq_iff_eq] at hrd
  refine wpGr_ready1 hrd.1 (by simp) (by simp [hrd.2]) fun j hj => ?_
  simp only [List.mem_singleton] at hj
  subst hj
  refine wpOp_sliceTo1 hi hw t e len parts ho hu xs.toArray (by rw [Array.toList_map, hl]; exact hf) ⟨(Below.refl _ _).alloc (Nat.le_refl _) _, fun w3 hw3 => ?_⟩
  refine h w.heap.size (w.alloc (.cells xs.toArray e)) (hb.alloc hb.size _) (.inr ⟨w.heap.size, 0, rfl, by simp, by simpa using hn, hm, fun j u hj => ?_⟩) w3 hw3
  rw [Nat.zero_add, cell_of_row _ _ j _ e (0, 0) (heap_alloc_new w _)]
  simpa using hj
end
end Go.Proofs.YtpkmidaflnbobaaGreatDoor
end
