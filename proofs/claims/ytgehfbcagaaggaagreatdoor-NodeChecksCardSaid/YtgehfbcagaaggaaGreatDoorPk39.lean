/-
  Texts of this claim in one file: Grs.
-/
import Derived.Test.YtgehfbcagaaggaaGreatDoorPk34
section
namespace Go.Proofs.YtgehfbcagaaggaaGreatDoor
open Go Go.RowKit
set_option linter.unusedVariables false
set_option linter.unusedSimpArgs false
section
variable {P : Program} {ops : Array Oper} {Q : Exit → Act → World → Prop} {md : Region.Mode}
/-- Whatever order is picked among the first n; nothing below the first world's memory changes. -/
def wpGs (P : Program) (md : Region.Mode) (ops : Array Oper) (Q : Exit → Act → World → Prop) (n : Nat) (L : Array Bool → Act → World → Prop) (w0 : World) : Nat → Array Bool → Act → World → Prop
  | 0, listed, a, w => L listed a w
  | f + 1, listed, a, w => HeadInv md ops n listed → Region.ready md ops listed ≠ [] ∧
    ∀ i ∈ Region.ready md ops listed, i < n ∧ wpOp P ops Q i (fun a' w' => Below w0.heap.size w0 w' ∧ ∀ w'', Below w'.heap.size w' w'' → wpGs P md ops Q n L w0 f (listed.setIfInBounds i true) a' w'') a w
variable {n : Nat} {L : Array Bool → Act → World → Prop} {w0 : World}
theorem wpAny_of_gs {g : Nat} (hL : ∀ listed a w, L listed a w → wpAny P md ops Q g listed a w) :
    ∀ (f : Nat) (listed : Array Bool) (a : Act) (w : World), HeadInv md ops n listed → wpGs P md ops Q n L w0 f listed a w → wpAny P md ops Q (f + g) listed a w
  | 0, listed, a, w, _, h => by rw [Nat.zero_add]; exact hL _ _ _ h
  | f + 1, listed, a, w, inv, h => by
    rw [show f + 1 + g = (f + g) + 1 by omega]
    exact ⟨fun h0 => absurd h0 (h inv).1, fun i hi => wpOp_mono (fun a' w' h' => wpAny_of_gs hL f _ a' w' (inv.set hi ((h inv).2 i hi).1) (h'.2 w' (Below.refl _ _))) ((h inv).2 i hi).2⟩
theorem wpGs_first {i : Nat} {oi : Oper} {v : Value} (hi : ops[i]? = some oi) (hsel : ∀ (j : Nat) (o : Oper) cs b, ops[j]? = some o → o.op ≠ .select cs b)
    (hQ : ∀ c a w, Q (.panic c) (a.put oi.dst v) w → Q (.panic c) a w)
    (hs : Region.sinkB md ops n = true) (hc : Region.chainB md ops n = true) (hn : n < ops.size) (hin : i < n)
    (hdone : ∀ listed a w, L listed a w → ∀ j ∈ Region.ready md ops listed, n ≤ j) :
    ∀ (f : Nat) (listed : Array Bool) (a : Act) (w : World),
      (∀ j oj, ops[j]? = some oj → j ≠ i → listed.getD j true = false → (∀ e ∈ oj.after, Region.binds md e = true → e.on ≠ i) → oi.apart ops oj = true) →
      i ∈ Region.ready md ops listed → YieldsG P ops oi v a w0 → Below w0.heap.size w0 w →
      (∀ w', Below w.heap.size w w' → wpGs P md ops Q n L w0 f (listed.setIfInBounds i true) (a.put oi.dst v) w') → wpGs P md ops Q n L w0 (f + 1) listed a w := by
  have self : ∀ (f : Nat) (listed : Array Bool) (a : Act) (w : World), YieldsG P ops oi v a w0 → Below w0.heap.size w0 w → (∀ w', Below w.heap.size w w' → wpGs P md ops Q n L w0 f (listed.setIfInBounds i true) (a.put oi.dst v) w') →
      wpOp P ops Q i (fun a' w' => Below w0.heap.size w0 w' ∧ ∀ w'', Below w'.heap.size w' w'' → wpGs P md ops Q n L w0 f (listed.setIfInBounds i true) a' w'') a w := fun f listed a w hy hS H =>
    wpOp_of_qOp (C := fun u => Below w.heap.size w u) (K := fun a' => a' = a.put oi.dst v) (Below.refl _ _) (fun a' w' hw' ha' => by subst ha'; exact ⟨hS.trans (hw'.mono hS.size), fun w'' hw'' => H w'' (hw'.trans (hw''.mono hw'.size))⟩)
      ((hy w hS).qOp hi rfl)
  intro f
  induction f with
  | zero =>
    intro listed a w _ hr hy hS H inv
    have hun := (mem_ready.1 hr).1
    refine ⟨fun h => (by rw [h] at hr; cases hr), fun j hj => ?_⟩
    have hjn : j < n := by
      rcases Nat.lt_or_ge j n with h | h
      · exact h
      · exact absurd hj (tail_waits hs hc hn inv _ i rfl hin hun j h)
    refine ⟨hjn, ?_⟩
    by_cases hji : j = i
    · subst hji; exact self 0 listed a w hy hS H
    · have := hdone _ _ _ (H w (Below.refl _ _)) j (ready_mono hj hji)
      omega
  | succ f ih =>
    intro listed a w hfree hr hy hS H inv
    have hun := (mem_ready.1 hr).1
    refine ⟨fun h => (by rw [h] at hr; cases hr), fun j hj => ?_⟩
    have hjn : j < n := by
      rcases Nat.lt_or_ge j n with h | h
      · exact h
      · exact absurd hj (tail_waits hs hc hn inv _ i rfl hin hun j h)
    refine ⟨hjn, ?_⟩
    by_cases hji : j = i
    · subst hji; exact self _ listed a w hy hS H
    · have h1 := ((H w (Below.refl _ _)) (inv.set hr hin)).2 j (ready_mono hj hji) |>.2
      obtain ⟨hjun, oj, hoj, hall⟩ := mem_ready.1 hj
      have hnot : ∀ e ∈ oj.after, Region.binds md e = true → e.on ≠ i := fun e he hb heq => by
        have h1 := hall e he hb
        rw [heq, getD_both hun] at h1
        cases h1
      have h2 := wpOp_putX hoj (hfree j oj hoj hji hjun hnot) (fun cs b => hsel i oi cs b hi) (fun cs b => hsel j oj cs b hoj) hQ h1
      have hfree' : ∀ k ok, ops[k]? = some ok → k ≠ i → (listed.setIfInBounds j true).getD k true = false →
          (∀ e ∈ ok.after, Region.binds md e = true → e.on ≠ i) → oi.apart ops ok = true := fun k ok hk hki hun hno => by
        refine hfree k ok hk hki ?_ hno
        by_cases hjk : j = k
        · subst hjk; exact hjun
        · rw [getD_set_ne true hjk] at hun; exact hun
      refine wpOp_mono (fun a' w' h3 => ?_) h2
      obtain ⟨⟨he, hw⟩, hb, h4⟩ := h3
      refine ⟨hb, fun w'' hw'' => ih (listed.setIfInBounds j true) a' w'' hfree' (ready_mono hr (Ne.symm hji)) (hy.of_same he hw) (hb.trans (hw''.mono hb.size)) (fun w3 hw3 => ?_)⟩
      rw [Array.setIfInBounds_comm _ _ hji]
      exact h4 w3 (hw''.trans (hw3.mono hw''.size))
/-- In every world that has grown from the first one. -/
def wpGsA (P : Program) (md : Region.Mode) (ops : Array Oper) (Q : Exit → Act → World → Prop) (n : Nat) (L : Array Bool → Act → World → Prop) (w0 : World) (f : Nat) (listed : Array Bool) (a : Act) : Prop :=
  ∀ w, Below w0.heap.size w0 w → wpGs P md ops Q n L w0 f listed a w
/-- Number i first. -/
theorem wpGs_take {g f : Nat} {l : List Oper} {i : Nat} {oi : Oper} (v : Value) {listed : Array Bool} {a : Act} {w : World} (hi : ops[i]? = some oi) (hs : (Region.noSelect ops && Region.sinkB md ops n && Region.chainB md ops n && decide (n < ops.size) && decide (i < n)) = true)
    (hf : (Region.free md ops listed i && (Region.ready md ops listed).contains i) = true) (hQ : ∀ c a w, Q (.panic c) (a.put oi.dst v) w → Q (.panic c) a w) (hy : YieldsG P ops oi v a w0) (hS : Below w0.heap.size w0 w)
    (h : ∀ w', Below w.heap.size w w' → wpGs P md ops Q n (GrL P md ops Q g n l) w0 f (listed.setIfInBounds i true) (a.put oi.dst v) w') : wpGs P md ops Q n (GrL P md ops Q g n l) w0 (f + 1) listed a w := by
  simp only [Bool.and_eq_true, decide_eq_true_eq] at hs hf
  obtain ⟨⟨⟨⟨h1, h2⟩, h3⟩, h4⟩, h5⟩ := hs
  exact wpGs_first hi (Region.noSelect_spec h1) hQ h2 h3 h4 h5 (fun listed a w hL => seqB_ready hL.1) f listed a w (Region.free_spec hi hf.1) (by simpa using hf.2) hy hS h
theorem wpGsA_take {g f : Nat} {l : List Oper} {i : Nat} {oi : Oper} (v : Value) {listed : Array Bool} {a : Act} (hi : ops[i]? = some oi) (hs : (Region.noSelect ops && Region.sinkB md ops n && Region.chainB md ops n && decide (n < ops.size) && decide (i < n)) = true)
    (hf : (Region.free md ops listed i && (Region.ready md ops listed).contains i) = true) (hQ : ∀ c a w, Q (.panic c) (a.put oi.dst v) w → Q (.panic c) a w) (hy : YieldsG P ops oi v a w0)
    (h : wpGsA P md ops Q n (GrL P md ops Q g n l) w0 f (listed.setIfInBounds i true) (a.put oi.dst v)) : wpGsA P md ops Q n (GrL P md ops Q g n l) w0 (f + 1) listed a := fun w hw =>
  wpGs_take v hi hs hf hQ hy hw fun w' hw' => h w' (hw.trans (hw'.mono hw.size))
/-- Whichever comes up. -/
theorem wpGs_ready {f : Nat} {rs : List Nat} {listed : Array Bool} {a : Act} {w : World} (hr : Region.ready md ops listed = rs) (hne : rs ≠ []) (hn : rs.all (· < n) = true)
    (h : ∀ i ∈ rs, wpOp P ops Q i (fun a' w' => Below w0.heap.size w0 w' ∧ ∀ w'', Below w'.heap.size w' w'' → wpGs P md ops Q n L w0 f (listed.setIfInBounds i true) a' w'') a w) : wpGs P md ops Q n L w0 (f + 1) listed a w := fun _ =>
  ⟨hr ▸ hne, hr ▸ fun i hi => ⟨by simpa using List.all_eq_true.1 hn i hi, h i hi⟩⟩
/-- An alloc that alone can come up. -/
theorem wpGsA_alloc {f : Nat} {i : Nat} {oi : Oper} {ti : TypeId} {zi : Array Value} {ki : Nat} {listed : Array Bool} {a : Act} (hi : ops[i]? = some oi) (hgi : oi.guard = none) (hoi : oi.op = .alloc ti)
    (hzi : (P.info? ti).map (fun i => (i.zero, i.size)) = some (some (.agg zi), ki)) (hr : (Region.ready md ops listed == [i] && decide (i < n)) = true)
    (h : ∀ p w', w0.heap.size ≤ p → w'.heap[p]? = some (.cells zi ti (0, 0)) → Below w0.heap.size w0 w' → wpGs P md ops Q n L w0 f (listed.setIfInBounds i true) (a.put oi.dst (.pointer (some ⟨p, 0, none⟩))) w') :
    wpGsA P md ops Q n L w0 (f + 1) listed a := fun w hw => by
  simp only [Bool.and_eq_true, decide_eq_true_eq, beq_iff_eq] at hr
  refine wpGs_ready hr.1 (by simp) (by simp [hr.2]) fun j hj => ?_
  simp only [List.mem_singleton] at hj
  subst hj
  refine wpOp_alloc hi hgi hoi (exec_alloc hoi hzi _ w) ⟨hw.alloc hw.size _, fun w'' hw'' => h _ w'' hw.size ?_ ?_⟩
  · rw [hw''.block _ (by simp)]; exact blkN rfl zi ti
  · exact (hw.alloc hw.size _).trans (hw''.mono (Nat.le_trans hw.size (by simp)))
/-- A store of a row into what is new, that alone can come up. -/
theorem wpGs_store {f : Nat} {i : Nat} {o : Oper} {listed : Array Bool} {a : Act} {w : World} (hi : ops[i]? = some o) (hgd : o.guard = none) (ty : TypeId) (x y : Operand) (ho : o.op = .store ty x y)
    (g : Nat) (cells : Array Value) (hx : a.eval x = .pointer (some ⟨g, 0, none⟩)) (hy : a.eval y = .agg cells)
    (t : TypeId) (old : Array Value) (hg : w.heap[g]? = some (.cells old t (0, 0))) (hif : (P.info? ty).map (·.size) = some cells.size)
    (hold : old.size = cells.size) (h1 : cells.all (·.oneCell') = true) (hS : Below w0.heap.size w0 w) (hg0 : w0.heap.size ≤ g) (hr : (Region.ready md ops listed == [i] && decide (i < n)) = true)
    (h : ∀ w', Below (w.setRow g cells).heap.size (w.setRow g cells) w' → wpGs P md ops Q n L w0 f (listed.setIfInBounds i true) (a.put o.dst undef) w') : wpGs P md ops Q n L w0 (f + 1) listed a w := by
  simp only [Bool.and_eq_true, decide_eq_true_eq, beq_iff_eq] at hr
  refine wpGs_ready hr.1 (by simp) (by simp [hr.2]) fun j hj => ?_
  simp only [List.mem_singleton] at hj
  subst hj
  exact wpOp_store_row hi hgd ty x y ho g cells hx hy t old hg hif hold h1 ⟨belowRow hS hg0 _, h⟩
/-- A call that alone can come up, of whose answer something is known. -/
theorem wpOp_call {i : Nat} {o : Oper} {K : Act → World → Prop} {a : Act} {w : World} {fid : FuncId} {args : Array Value} {R : Value → World → Prop} (hi : ops[i]? = some o) (hg : o.guard = none) (hx : (execOp a.eval o).run P w = .ok (.enter fid args) w)
    (hc : Calls P fid args w (fun e w' => ∃ v, e = .returned v ∧ R v w')) (h : ∀ v w', R v w' → K (a.put o.dst v) w') : wpOp P ops Q i K a w := by
  unfold wpOp
  simp only [hi]
  rw [if_pos (by simp [Region.wanted, hg])]
  unfold Oper.wp
  rw [hx]
  refine .inl ?_
  exact hc.mono fun e w' he => by
    obtain ⟨v, rfl, hR⟩ := he
    exact h v w' hR
theorem wpGs_call {f : Nat} {i : Nat} {o : Oper} {listed : Array Bool} {a : Act} {w : World} {fid : FuncId} {args : Array Value} {R : Value → World → Prop} (hi : ops[i]? = some o) (hgd : o.guard = none) (hx : (execOp a.eval o).run P w = .ok (.enter fid args) w)
    (hc : Calls P fid args w (fun e w' => ∃ v, e = .returned v ∧ R v w' ∧ Below w.heap.size w w')) (hS : Below w0.heap.size w0 w) (hr : (Region.ready md ops listed == [i] && decide (i < n)) = true)
    (h : ∀ v w' w'', R v w' → Below w.heap.size w w' → Below w'.heap.size w' w'' → wpGs P md ops Q n L w0 f (listed.setIfInBounds i true) (a.put o.dst v) w'') : wpGs P md ops Q n L w0 (f + 1) listed a w := by
  simp only [Bool.and_eq_true, decide_eq_true_eq, beq_iff_eq] at hr
  refine wpGs_ready hr.1 (by simp) (by simp [hr.2]) fun j hj => ?_
  simp only [List.mem_singleton] at hj
  subst hj
  exact wpOp_call (R := fun v w' => R v w' ∧ Below w.heap.size w w') hi hgd hx hc fun v w' hR => ⟨hS.trans (hR.2.mono hS.size), fun w'' hw'' => h v w' w'' hR.1 hR.2 hw''⟩
theorem wpGs_end {g : Nat} {l : List Oper} {listed : Array Bool} {a : Act} {w : World} (hB : Region.seqB md ops g n listed = true) (h : wpList P ops Q l a w) : wpGs P md ops Q n (GrL P md ops Q g n l) w0 0 listed a w := ⟨hB, h⟩
theorem wp_region_gsA {id : Nat} {a : Act} {w : World} {l : List Oper} (n : Nat) (hm : P.follows .mixedOrders = true) (hn : n < l.length)
    (h : wpGsA P .any l.toArray Q n (GrL P .any l.toArray Q (l.length - n) n (l.drop n)) w n (Array.replicate l.length false) a) : (Code.region id l.toArray true).wp P Q a w := by
  have inv0 : HeadInv .any l.toArray n (Array.replicate l.length false) :=
    ⟨by simp, fun j oj _ hl => (by rw [getD_replicate_false] at hl; cases hl), fun t _ ht => getD_in (by simpa using ht) (getD_replicate_false _ _)⟩
  refine wp_region_any hm ?_
  have h1 := h { w with drawn := w.drawn + 1 } (Below.refl _ w).drew
  have := wpAny_of_gs (Q := Q) (g := l.length - n) (fun listed a' w' hL => by
    have := wpAny_of_seq (md := .any) (Q' := Q) (l.drop n) n listed a' w' (fun j => by simp [List.getElem?_drop]) (by rw [List.length_drop]; exact hL.1) hL.2
    rwa [List.length_drop] at this) _ _ _ _ inv0 h1
  rw [show n + (l.length - n) = l.toArray.size by simp; omega] at this
  simpa using this
end
end Go.Proofs.YtgehfbcagaaggaaGreatDoor
end
