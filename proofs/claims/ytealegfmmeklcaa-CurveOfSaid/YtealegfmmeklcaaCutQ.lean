/-
  Walks with each value said: calls that answer a point of the document, or bytes somewhere; a call and an alloc in whatever order.
-/
import Derived.Test.YtealegfmmeklcaaCutP
import Derived.Test.YtealegfmmeklcaaRef09
namespace Go.Proofs.Ytealegfmmeklcaa
open Go Go.RowKit
set_option linter.unusedVariables false
set_option linter.unusedSimpArgs false
section
variable {P : Program} {ops : Array Oper} {Q : Exit → Act → World → Prop} {md : Region.Mode} {n : Nat}
theorem wpLA_pt {o : Oper} {rest : List Oper} {a : Act} {w0 : World} {f : FuncId} {args : Array Value} (x y : FF) (hw : Region.wanted o (yielded ops a.tmps) = true) (hr : ∀ w', (execOp a.eval o).run P w' = .ok (.enter f args) w')
    (hc : ∀ w', Below w0.heap.size w0 w' → Calls P f args w' (fun e w'' => ∃ A1 c1 A2 c2, e = .returned (.agg (ptA A1 c1 x A2 c2 y)) ∧ Sq w'' w''.heap.size A1 c1 (ivs (dg x.val)) ∧ Sq w'' w''.heap.size A2 c2 (ivs (dg y.val)) ∧ Below w'.heap.size w' w''))
    (h : ∀ A c A' c' w2, Below w0.heap.size w0 w2 → Sq w2 w2.heap.size A c (ivs (dg x.val)) → Sq w2 w2.heap.size A' c' (ivs (dg y.val)) → wpLA P ops Q w2 rest (a.put o.dst (.agg (ptA A c x A' c' y)))) : wpLA P ops Q w0 (o :: rest) a :=
  wpLA_call (fun w' v w'' => ∃ A1 c1 A2 c2, v = .agg (ptA A1 c1 x A2 c2 y) ∧ Sq w'' w''.heap.size A1 c1 (ivs (dg x.val)) ∧ Sq w'' w''.heap.size A2 c2 (ivs (dg y.val)) ∧ Below w'.heap.size w' w'') hw hr (fun w' hb => (hc w' hb).mono fun e w'' ⟨A1, c1, A2, c2, he, hs, hs', hb2⟩ => ⟨_, he, A1, c1, A2, c2, rfl, hs, hs', hb2⟩)
    fun w' v w'' hb ⟨A1, c1, A2, c2, hv, hs, hs', hb2⟩ => by subst hv; exact h A1 c1 A2 c2 w'' (hb.trans (hb2.mono hb.size)) hs hs'
theorem wpGrA_pt {g f : Nat} {l : List Oper} {i : Nat} {oi : Oper} {listed : Array Bool} {a : Act} {w0 : World} {fn : FuncId} {args : Array Value} (x y : FF) (hi : ops[i]? = some oi) (hrd : (Region.ready md ops listed == [i] && decide (i < n)) = true)
    (hw : Region.wanted oi (yielded ops a.tmps) = true) (hr : ∀ w', (execOp a.eval oi).run P w' = .ok (.enter fn args) w')
    (hc : ∀ w', Below w0.heap.size w0 w' → Calls P fn args w' (fun e w'' => ∃ A1 c1 A2 c2, e = .returned (.agg (ptA A1 c1 x A2 c2 y)) ∧ Sq w'' w''.heap.size A1 c1 (ivs (dg x.val)) ∧ Sq w'' w''.heap.size A2 c2 (ivs (dg y.val)) ∧ Below w'.heap.size w' w''))
    (h : ∀ A c A' c' w2, Below w0.heap.size w0 w2 → Sq w2 w2.heap.size A c (ivs (dg x.val)) → Sq w2 w2.heap.size A' c' (ivs (dg y.val)) → wpGrA P md ops Q n (GrL P md ops Q g n l) w2 f (listed.setIfInBounds i true) (a.put oi.dst (.agg (ptA A c x A' c' y)))) : wpGrA P md ops Q n (GrL P md ops Q g n l) w0 (f + 1) listed a :=
  wpGrA_call (fun w' v w'' => ∃ A1 c1 A2 c2, v = .agg (ptA A1 c1 x A2 c2 y) ∧ Sq w'' w''.heap.size A1 c1 (ivs (dg x.val)) ∧ Sq w'' w''.heap.size A2 c2 (ivs (dg y.val))) hi hrd hw hr (fun w' hb => (hc w' hb).mono fun e w'' ⟨A1, c1, A2, c2, he, hs, hs', hb2⟩ => ⟨_, he, hb2, A1, c1, A2, c2, rfl, hs, hs'⟩)
    fun w' v w'' hb hb2 ⟨A1, c1, A2, c2, hv, hs, hs'⟩ => by subst hv; exact h A1 c1 A2 c2 w'' (hb.trans (hb2.mono hb.size)) hs hs'
theorem wpGrA_sq {g f : Nat} {l : List Oper} {i : Nat} {oi : Oper} {listed : Array Bool} {a : Act} {w0 : World} {fn : FuncId} {args : Array Value} (xs : List Value) (m : Nat) (hi : ops[i]? = some oi) (hrd : (Region.ready md ops listed == [i] && decide (i < n)) = true)
    (hw : Region.wanted oi (yielded ops a.tmps) = true) (hr : ∀ w', (execOp a.eval oi).run P w' = .ok (.enter fn args) w')
    (hc : ∀ w', Below w0.heap.size w0 w' → Calls P fn args w' (fun e w'' => ∃ A c, e = .returned (.slice A m c) ∧ Sq w'' w''.heap.size A c xs ∧ Below w'.heap.size w' w''))
    (h : ∀ A c w2, Below w0.heap.size w0 w2 → Sq w2 w2.heap.size A c xs → wpGrA P md ops Q n (GrL P md ops Q g n l) w2 f (listed.setIfInBounds i true) (a.put oi.dst (.slice A m c))) : wpGrA P md ops Q n (GrL P md ops Q g n l) w0 (f + 1) listed a :=
  wpGrA_call (fun w' v w'' => ∃ A c, v = .slice A m c ∧ Sq w'' w''.heap.size A c xs) hi hrd hw hr (fun w' hb => (hc w' hb).mono fun e w'' ⟨A, c, he, hs, hb2⟩ => ⟨_, he, hb2, A, c, rfl, hs⟩)
    fun w' v w'' hb hb2 ⟨A, c, hv, hs⟩ => by subst hv; exact h A c w'' (hb.trans (hb2.mono hb.size)) hs
/-- A call that answers a number, and an alloc: either may come up. -/
theorem wpGrA_big_alloc {g f : Nat} {l : List Oper} {i j : Nat} {oi oj : Oper} {listed : Array Bool} {a : Act} {w0 : World} {fn : FuncId} {args : Array Value} (N : Nat) {tj : TypeId} {zj : Array Value} {kj : Nat} (hi : ops[i]? = some oi) (hj : ops[j]? = some oj)
    (hrd : (Region.ready md ops listed == [i, j] && decide (i < n) && decide (j < n)) = true)
    (hw : Region.wanted oi (yielded ops a.tmps) = true) (hr : ∀ w', (execOp a.eval oi).run P w' = .ok (.enter fn args) w')
    (hc : ∀ w', Below w0.heap.size w0 w' → Calls P fn args w' (BigR w' N)) (hgj : oj.guard = none) (hoj : oj.op = .alloc tj)
    (hzj : (P.info? tj).map (fun i => (i.zero, i.size)) = some (some (.agg zj), kj))
    (h1 : ∀ A c w2, Below w0.heap.size w0 w2 → Sq w2 w2.heap.size A c (ivs (dg N)) → wpGrA P md ops Q n (GrL P md ops Q g n l) w2 f (listed.setIfInBounds i true) (a.put oi.dst (.slice A (dg N).length c)))
    (h2 : ∀ p w', w0.heap.size ≤ p → w'.heap[p]? = some (.cells zj tj (0, 0)) → Below w0.heap.size w0 w' → wpGrA P md ops Q n (GrL P md ops Q g n l) w' f (listed.setIfInBounds j true) (a.put oj.dst (.pointer (some ⟨p, 0, none⟩)))) :
    wpGrA P md ops Q n (GrL P md ops Q g n l) w0 (f + 1) listed a := fun w hb => by
  simp only [Bool.and_eq_true, decide_eq_true_eq, beq_iff_eq] at hrd
  refine wpGr_ready hrd.1.1 (by simp) (by simp [hrd.1.2, hrd.2]) fun m hm => ?_
  simp only [List.mem_cons, List.not_mem_nil, or_false] at hm
  rcases hm with rfl | rfl
  · unfold wpOp
    simp only [hi]
    rw [if_pos hw]
    refine .inl ?_
    unfold Oper.wp
    rw [hr w]
    refine (hc w hb).mono fun e w'' ⟨A, c, he, hs, hb2⟩ => ?_
    subst he
    exact ⟨hb2, fun w3 hw3 => h1 A c w'' (hb.trans (hb2.mono hb.size)) hs w3 hw3⟩
  · refine wpOp_alloc hj hgj hoj (exec_alloc hoj hzj _ w) ⟨(Below.refl _ _).alloc (Nat.le_refl _) _, fun w'' hw'' => h2 w.heap.size w'' hb.size ?_ ?_ w'' (Below.refl _ _)⟩
    · rw [hw''.block _ (by simp)]; exact blkN rfl zj tj
    · exact hb.trans ((((Below.refl _ _).alloc (Nat.le_refl _) _).trans (hw''.mono (by simp))).mono hb.size)
end
/-- Whole numbers lie elsewhere than rows of slices. -/
theorem Sq.notNo {w : World} {B c g : Nat} {A : Option Addr} {xs : List Value} {cs : Array Value} {t : TypeId} (h : Sq w B A c xs) (hx : ∀ u ∈ xs, ∃ k n, u = .int k n) (hg : w.heap[g]? = some (.cells cs t (0, 0))) (hn : NoInt cs) : NotIn A xs g := fun hne b o sp e hbg => by
  subst hbg
  rcases h with ⟨h, _⟩ | ⟨b', o', hA, hb, h1, h2, hc⟩
  · exact hne h
  · rw [hA] at e
    simp only [Option.some.injEq, Addr.mk.injEq] at e
    obtain ⟨rfl, rfl, _⟩ := e
    have hl : 0 < xs.length := List.length_pos_iff.2 hne
    have h3 := hc 0 xs[0] (List.getElem?_eq_getElem hl)
    rw [cell_of_row w _ (o' + 0) cs t (0, 0) hg] at h3
    obtain ⟨k, n, hkn⟩ := hx _ (List.getElem_mem hl)
    exact hn _ _ h3 k n hkn
def IntM : List (Option Addr × Nat × List Value) → Prop
  | [] => True
  | q :: M => (∀ u ∈ q.2.2, ∃ k n, u = .int k n) ∧ IntM M
theorem Sqs.notNo {w : World} {g : Nat} {cs : Array Value} {t : TypeId} (hg : w.heap[g]? = some (.cells cs t (0, 0))) (hn : NoInt cs) : ∀ {M : List (Option Addr × Nat × List Value)}, IntM M → Sqs w M → ∀ q ∈ M, NotIn q.1 q.2.2 g
  | [], _, _, _, hq => by cases hq
  | r :: M, hi, h, q, hq => by
    rcases List.mem_cons.1 hq with rfl | hq
    · exact h.1.notNo hi.1 hg hn
    · exact Sqs.notNo hg hn hi.2 h.2 q hq
end Go.Proofs.Ytealegfmmeklcaa
