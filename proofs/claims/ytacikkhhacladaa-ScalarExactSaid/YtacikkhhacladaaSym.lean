/-
  A walk in which each operation's value is said: what the memory holds is kept as a list of blocks and a list of slices, of one world at a time.
-/
import Derived.Test.YtacikkhhacladaaGrw
import Derived.Test.YtacikkhhacladaaShaS
import Derived.BigFrame
import Derived.Deep.DeepCutAuto
namespace Go.Proofs.Ytacikkhhacladaa
open Go Go.RowKit
set_option linter.unusedVariables false
set_option linter.unusedSimpArgs false
section
variable {P : Program} {ops : Array Oper} {Q : Exit → Act → World → Prop} {md : Region.Mode}

/-! What yields one value (wanted, guarded or not). -/
theorem yG_val {o : Oper} {a : Act} {w : World} (v : Value) (hw : Region.wanted o (yielded ops a.tmps) = true) (hr : ∀ w', Below w.heap.size w w' → (execOp a.eval o).run P w' = .ok (.value v) w') : YieldsG P ops o v a w := fun w' hw' =>
  .inl ⟨hw, fun u hu => by unfold Oper.quietAt; rw [hr u (hw'.trans (hu.mono hw'.size))]; exact ⟨rfl, rfl⟩⟩
theorem yG_skip {o : Oper} {a : Act} {w : World} (hw : Region.wanted o (yielded ops a.tmps) = false) : YieldsG P ops o undef a w := fun _ _ => .inr ⟨hw, rfl⟩
theorem yG_call {o : Oper} {a : Act} {w : World} {v : Value} {f : FuncId} {args : Array Value} (hw : Region.wanted o (yielded ops a.tmps) = true) (hr : ∀ w', (execOp a.eval o).run P w' = .ok (.enter f args) w')
    (hc : ∀ w', Below w.heap.size w w' → Calls P f args w' (fun e w'' => e = .returned v ∧ Below w'.heap.size w' w'')) : YieldsG P ops o v a w := fun w' hw' =>
  .inl ⟨hw, fun u hu => by
    unfold Oper.quietAt
    rw [hr u]
    exact ⟨rfl, (hc u (hw'.trans (hu.mono hw'.size))).mono fun e w'' h => ⟨h.1, hu.trans (h.2.mono hu.size)⟩⟩⟩
theorem yG_part {o : Oper} {a : Act} {w : World} (hw : Region.wanted o (yielded ops a.tmps) = true) (ty : TypeId) (x : Operand) (ho : o.op = .load ty x)
    (g k : Nat) (hx : a.eval x = .pointer (some ⟨g, k, none⟩)) (t : TypeId) (C cs : Array Value) (fr : Nat × Nat) (d : TypeDesc) (hg : w.heap[g]? = some (.cells C t fr)) (hcs : C.extract k (k + cs.size) = cs)
    (hu : P.underlying ty = some d) (hd : d.isRow = true) (hi : (P.info? ty).map (·.size) = some cs.size) : YieldsG P ops o (.agg cs) a w :=
  yG_val _ hw fun w' hw' => by
    have hb : w'.heap[g]? = some (.cells C t fr) := by
      rw [hw'.block g (by rcases Nat.lt_or_ge g w.heap.size with h | h; exact h; rw [Array.getElem?_eq_none h] at hg; cases hg)]; exact hg
    have hr := World.rangeAt_of_block hb k cs.size
    rw [hcs] at hr
    have h := run_loadAt_mid (P := P) w' g k ty cs.toList d hr hu hd (by simpa using hi)
    simp only [execOp, ho, hx, Sem.run_bind, h, Result.andThen_ok]
    rfl
theorem yG_build {o : Oper} {a : Act} {w : World} (hw : Region.wanted o (yielded ops a.tmps) = true) (t : TypeId) (parts : Array (Nat × Operand)) (ho : o.op = .build t parts) (l : List (Nat × Value)) (hl : (parts.toList.map fun (i, x) => (i, a.eval x)) = l) (cells : Array Value) (hb : P.built t l = some cells) : YieldsG P ops o (.agg cells) a w :=
  yG_val _ hw fun w' _ => exec_build t parts ho cells (by rw [hl]; exact hb) w'

/-! Lists in order. -/
/-- In every world that has grown from w0. -/
def wpLA (P : Program) (ops : Array Oper) (Q : Exit → Act → World → Prop) (w0 : World) (l : List Oper) (a : Act) : Prop := ∀ w, Below w0.heap.size w0 w → wpList P ops Q l a w
theorem wpLA_start {id : Nat} {a : Act} {w : World} {l : List Oper} (h : wpLA P l.toArray Q w l a) : (Code.region id l.toArray false).wp P Q a w := wp_region_lit (h w (Below.refl _ _))
theorem wpLA_end {a : Act} {w0 : World} (h : ∀ w, Below w0.heap.size w0 w → Q .normal a w) : wpLA P ops Q w0 [] a := fun w hw => h w hw
theorem wpLA_take {o : Oper} {rest : List Oper} {a : Act} {w0 : World} (v : Value) (hy : YieldsG P ops o v a w0) (h : wpLA P ops Q w0 rest (a.put o.dst v)) : wpLA P ops Q w0 (o :: rest) a := fun w hw => by
  rcases hy w hw with ⟨hw', hv⟩ | ⟨hw', rfl⟩
  · exact BigFrame.wpList_want hw' fun K hK => Oper.wp_of_quiet (C := fun u => Below w.heap.size w u) (K := fun a' => a' = a.put o.dst v) (Below.refl _ _) (fun a' w' hb ha => by subst ha; exact hK _ _ (h w' (hw.trans (hb.mono hw.size)))) ⟨v, hv, rfl⟩
  · exact wpList_step fun K hK => by
      rw [if_neg (by rw [hw']; simp)]
      exact hK _ _ (h w hw)
/-- A call, whatever it answers. -/
theorem wpLA_call {o : Oper} {rest : List Oper} {a : Act} {w0 : World} {f : FuncId} {args : Array Value} (K : World → Value → World → Prop) (hw : Region.wanted o (yielded ops a.tmps) = true) (hr : ∀ w', (execOp a.eval o).run P w' = .ok (.enter f args) w')
    (hc : ∀ w', Below w0.heap.size w0 w' → Calls P f args w' (fun e w'' => ∃ v, e = .returned v ∧ K w' v w''))
    (h : ∀ w' v w'', Below w0.heap.size w0 w' → K w' v w'' → wpLA P ops Q w'' rest (a.put o.dst v)) : wpLA P ops Q w0 (o :: rest) a := fun w hb =>
  BigFrame.wpList_want hw fun K' hK => by
    unfold Oper.wp
    rw [hr w]
    refine (hc w hb).mono fun e w'' ⟨v, he, hk⟩ => ?_
    subst he
    exact hK _ _ (h w v w'' hb hk w'' (Below.refl _ _))
/-- An alloc. -/
theorem wpLA_alloc {o : Oper} {rest : List Oper} {a : Act} {w0 : World} {ty : TypeId} {z : Array Value} {k : Nat} (hw : Region.wanted o (yielded ops a.tmps) = true) (ho : o.op = .alloc ty) (hz : (P.info? ty).map (fun i => (i.zero, i.size)) = some (some (.agg z), k))
    (h : ∀ p w', w0.heap.size ≤ p → w'.heap[p]? = some (.cells z ty (0, 0)) → Below w0.heap.size w0 w' → wpLA P ops Q w' rest (a.put o.dst (.pointer (some ⟨p, 0, none⟩)))) : wpLA P ops Q w0 (o :: rest) a := fun w hb =>
  BigFrame.wpList_want hw fun K' hK => by
    unfold Oper.wp
    rw [exec_alloc ho hz _ w]
    exact hK _ _ (h w.heap.size (w.alloc (.cells z ty)) hb.size (blkN rfl z ty) (hb.alloc hb.size _) _ (Below.refl _ _))
/-- A store of a whole row. -/
theorem wpLA_store {o : Oper} {rest : List Oper} {a : Act} {w0 : World} (hgd : o.guard = none) (ty : TypeId) (x y : Operand) (ho : o.op = .store ty x y) (g : Nat) (cells : Array Value) (hx : a.eval x = .pointer (some ⟨g, 0, none⟩)) (hy : a.eval y = .agg cells)
    (t : TypeId) (old : Array Value) (hg : w0.heap[g]? = some (.cells old t (0, 0))) (hif : (P.info? ty).map (·.size) = some cells.size) (hold : old.size = cells.size) (h1 : cells.all (·.oneCell') = true)
    (h : ∀ w', Below w0.heap.size w0 w' → wpLA P ops Q (w'.setRow g cells) rest (a.put o.dst undef)) : wpLA P ops Q w0 (o :: rest) a := fun w hb =>
  wpList_store_row hgd ty x y ho g cells hx hy t old (by rw [hb.block g (block_lt hg)]; exact hg) hif hold h1 (h w hb _ (Below.refl _ _))
/-- The beginning of a list in the midst of a walk. -/
theorem wpLA_here {l : List Oper} {a : Act} {w : World} (h : wpLA P ops Q w l a) : wpList P ops Q l a w := h w (Below.refl _ _)

/-! Drawn regions: the same. -/
variable {n : Nat}
/-- A call, whatever it answers: the only one that may come up. -/
theorem wpGrA_call {g f : Nat} {l : List Oper} {i : Nat} {oi : Oper} {listed : Array Bool} {a : Act} {w0 : World} {fn : FuncId} {args : Array Value} (K : World → Value → World → Prop) (hi : ops[i]? = some oi) (hrd : (Region.ready md ops listed == [i] && decide (i < n)) = true)
    (hw : Region.wanted oi (yielded ops a.tmps) = true) (hr : ∀ w', (execOp a.eval oi).run P w' = .ok (.enter fn args) w')
    (hc : ∀ w', Below w0.heap.size w0 w' → Calls P fn args w' (fun e w'' => ∃ v, e = .returned v ∧ Below w'.heap.size w' w'' ∧ K w' v w''))
    (h : ∀ w' v w'', Below w0.heap.size w0 w' → Below w'.heap.size w' w'' → K w' v w'' → wpGrA P md ops Q n (GrL P md ops Q g n l) w'' f (listed.setIfInBounds i true) (a.put oi.dst v)) : wpGrA P md ops Q n (GrL P md ops Q g n l) w0 (f + 1) listed a := fun w hb => by
  simp only [Bool.and_eq_true, decide_eq_true_eq, beq_iff_eq] at hrd
  refine wpGr_ready hrd.1 (by simp) (by simp [hrd.2]) fun j hj => ?_
  simp only [List.mem_singleton] at hj
  subst hj
  unfold wpOp
  simp only [hi]
  rw [if_pos hw]
  refine .inl ?_
  unfold Oper.wp
  rw [hr w]
  refine (hc w hb).mono fun e w'' ⟨v, he, hb2, hk⟩ => ?_
  subst he
  exact ⟨hb2, fun w3 hw3 => h w v w'' hb hb2 hk w3 hw3⟩
end

/-! What the memory holds. -/
theorem grown_one (w : World) (g : Nat) (cs : Array Value) : w.grownBy (w.setRow g cs) (some g) :=
  ⟨rfl, rfl, rfl, by rw [size_setRow]; exact Nat.le_refl _, fun k hk hne => setRow_other w g k cs (fun e => hne (by rw [e]))⟩
/-- Slices that lie. -/
def Sqs (w : World) : List (Option Addr × Nat × List Value) → Prop
  | [] => True
  | q :: M => Sq w w.heap.size q.1 q.2.1 q.2.2 ∧ Sqs w M
theorem Sqs.on {w w' : World} (hb : Below w.heap.size w w') : ∀ {M}, Sqs w M → Sqs w' M
  | [], _ => trivial
  | q :: M, h => ⟨(h.1.below hb).more hb.size, Sqs.on hb h.2⟩
/-- The blocks L (apart, all made since w) and the slices M, in w1. -/
structure St (w w1 : World) (L : List (Nat × Array Value × TypeId)) (M : List (Option Addr × Nat × List Value)) : Prop where
  below : Below w.heap.size w w1
  cl : Cl w1 L
  nd : (L.map (·.1)).Nodup
  own : ∀ p ∈ L, w.heap.size ≤ p.1
  sq : Sqs w1 M
section
variable {w w1 w2 : World} {L : List (Nat × Array Value × TypeId)} {M : List (Option Addr × Nat × List Value)}
theorem St.start (w : World) : St w w [] [] := ⟨Below.refl _ _, trivial, List.nodup_nil, (fun _ h => by cases h), trivial⟩
theorem St.on (h : St w w1 L M) (hb : Below w1.heap.size w1 w2) : St w w2 L M := ⟨h.below.trans (hb.mono h.below.size), h.cl.on hb, h.nd, h.own, h.sq.on hb⟩
theorem St.alloc (h : St w w1 L M) (hb : Below w1.heap.size w1 w2) {p : Nat} (hp : w1.heap.size ≤ p) {z : Array Value} {t : TypeId} (hz : w2.heap[p]? = some (.cells z t (0, 0))) : St w w2 ((p, z, t) :: L) M := by
  refine ⟨h.below.trans (hb.mono h.below.size), ⟨hz, h.cl.on hb⟩, ?_, fun q hq => ?_, h.sq.on hb⟩
  · rw [List.map_cons, List.nodup_cons]
    refine ⟨fun hm => ?_, h.nd⟩
    obtain ⟨q, hq, he⟩ := List.mem_map.1 hm
    exact h.cl.far hp q hq he
  · rcases List.mem_cons.1 hq with rfl | hq
    · exact Nat.le_trans h.below.size hp
    · exact h.own q hq
theorem St.more (h : St w w1 L M) {A : Option Addr} {c : Nat} {xs : List Value} (hs : Sq w1 w1.heap.size A c xs) : St w w1 L ((A, c, xs) :: M) := ⟨h.below, h.cl, h.nd, h.own, hs, h.sq⟩
theorem Cl.setAt {p : Nat} {X : Array Value} : ∀ {L : List (Nat × Array Value × TypeId)} (i : Nat) {old : Array Value} {t : TypeId}, (L.map (·.1)).Nodup → L[i]? = some (p, old, t) → Cl w1 L → Cl (w1.setRow p X) (L.set i (p, X, t))
  | [], i, _, _, _, hi, _ => by simp at hi
  | q :: L, 0, old, t, hn, hi, h => by
    simp only [List.getElem?_cons_zero, Option.some.injEq] at hi
    subst hi
    rw [List.map_cons, List.nodup_cons] at hn
    exact ⟨setRow_heap _ _ _ _ _ _ h.1, h.2.row _ fun r hr e => hn.1 (List.mem_map.2 ⟨r, hr, e⟩)⟩
  | q :: L, i + 1, old, t, hn, hi, h => by
    simp only [List.getElem?_cons_succ] at hi
    rw [List.map_cons, List.nodup_cons] at hn
    have hne : q.1 ≠ p := fun e => hn.1 (List.mem_map.2 ⟨(p, old, t), List.mem_of_getElem? hi, e.symm⟩)
    exact ⟨(setRow_other _ _ _ _ hne).trans h.1, Cl.setAt i hn.2 hi h.2⟩
theorem Sqs.far {p : Nat} (hp : w1.heap.size ≤ p) : ∀ {M : List (Option Addr × Nat × List Value)}, Sqs w1 M → ∀ q ∈ M, NotIn q.1 q.2.2 p
  | [], _, _, hq => by cases hq
  | r :: M, h, q, hq => by
    rcases List.mem_cons.1 hq with rfl | hq
    · exact h.1.notIn hp
    · exact Sqs.far hp h.2 q hq
theorem Sqs.row {p : Nat} (X : Array Value) : ∀ {M : List (Option Addr × Nat × List Value)}, (∀ q ∈ M, NotIn q.1 q.2.2 p) → Sqs w1 M → Sqs (w1.setRow p X) M
  | [], _, _ => trivial
  | q :: M, hn, h => ⟨by
    rw [size_setRow]
    exact h.1.other (grown_one w1 p X) (Nat.le_refl _) (hn q (by simp)), Sqs.row X (fun r hr => hn r (by simp [hr])) h.2⟩
theorem St.put (h : St w w1 L M) (i : Nat) {p : Nat} {old X : Array Value} {t : TypeId} (hi : L[i]? = some (p, old, t)) (hM : ∀ q ∈ M, NotIn q.1 q.2.2 p) : St w (w1.setRow p X) (L.set i (p, X, t)) M := by
  have hm : (p, old, t) ∈ L := List.mem_of_getElem? hi
  refine ⟨belowRow h.below (h.own _ hm) X, h.cl.setAt i h.nd hi, ?_, fun q hq => ?_, h.sq.row X hM⟩
  · rw [List.map_set, show (p, X, t).1 = p from rfl]
    have : (L.map (·.1)).set i p = L.map (·.1) := by
      refine List.ext_getElem? fun j => ?_
      rw [List.getElem?_set]
      split
      · rename_i e; subst e
        split
        · rw [List.getElem?_map, hi]; rfl
        · rename_i hl; rw [List.getElem?_eq_none (by omega)]
      · rfl
    rw [this]; exact h.nd
  · rcases List.mem_or_eq_of_mem_set hq with hq | rfl
    · exact h.own q hq
    · exact h.own (p, old, t) hm
theorem St.put0 (h : St w w1 L []) (i : Nat) {p : Nat} {old X : Array Value} {t : TypeId} (hi : L[i]? = some (p, old, t)) : St w (w1.setRow p X) (L.set i (p, X, t)) [] := h.put i hi fun _ hq => by cases hq
end
end Go.Proofs.Ytacikkhhacladaa
