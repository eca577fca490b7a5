/-
  Texts of this claim in one file: Sym.
-/
import Derived.OrdersHeld
import Derived.Deep.MidRow
import Derived.Deep.WholeRow
import Derived.StillTailTactics
import Derived.Deep.QuietTactic
import Derived.BigQuiet
import Derived.Test.YthooibljnfnnhaaPk25
import Derived.Test.YthooibljnfnnhaaPk27
import Derived.Test.YthooibljnfnnhaaPk26
import Derived.BigFrame
import Derived.Deep.DeepCutAuto
section
namespace Go.Proofs.Ythooibljnfnnhaa
section
open Go Go.RowKit
set_option linter.unusedVariables false
set_option linter.unusedSimpArgs false
section
variable {P : Program} {ops : Array Oper} {Q : Exit → Act → World → Prop} {md : Region.Mode}
/-- An operation apart from another: whether the other's value stands already makes no difference, and the other may be asked later as well. -/
theorem wpOp_putX {j : Nat} {oi oj : Oper} {v : Value} (hj : ops[j]? = some oj) (hap : oi.apart ops oj = true)
    (hsi : ∀ cs b, oi.op ≠ .select cs b) (hsj : ∀ cs b, oj.op ≠ .select cs b)
    (hQ : ∀ c a w, Q (.panic c) (a.put oi.dst v) w → Q (.panic c) a w) {K : Act → World → Prop} {a : Act} {w : World}
    (h : wpOp P ops Q j K (a.put oi.dst v) w) :
    wpOp P ops Q j (fun a' w' => (execOp a'.eval oi = execOp a.eval oi ∧ Region.wanted oi (yielded ops a'.tmps) = Region.wanted oi (yielded ops a.tmps)) ∧ K (a'.put oi.dst v) w') a w := by
  obtain ⟨h1, h2, h3⟩ := Oper.apart_spec hap
  have keep : ∀ (b : Act) u, (execOp b.eval oi = execOp a.eval oi ∧ Region.wanted oi (yielded ops b.tmps) = Region.wanted oi (yielded ops a.tmps)) → execOp (b.put oj.dst u).eval oi = execOp a.eval oi ∧ Region.wanted oi (yielded ops (b.put oj.dst u).tmps) = Region.wanted oi (yielded ops a.tmps) :=
    fun b u hb => ⟨(execOp_put oi hsi b oj.dst u h3).trans hb.1, (wanted_put oi b oj.dst u h3).trans hb.2⟩
  unfold wpOp at *
  simp only [hj] at *
  rw [wanted_put oj a oi.dst v h1] at h
  split
  · rename_i hw
    simp only [hw, if_true] at h
    rcases h with h | ⟨hasks, hlets⟩
    case inr => exact .inr ⟨by unfold Oper.asks at *; rw [execOp_put oj hsj a oi.dst v h1] at hasks; exact hasks, hlets⟩
    refine .inl ?_
    unfold Oper.wp at *
    rw [execOp_put oj hsj a oi.dst v h1] at h
    generalize (execOp a.eval oj).run P w = r at *
    cases r with
    | ok n w' =>
      cases n <;> simp only [Oper.upon] at h ⊢
      case value u => exact ⟨keep a u ⟨rfl, rfl⟩, by rw [← Act.put_comm a v u h2]; exact h⟩
      case skip => exact ⟨keep a _ ⟨rfl, rfl⟩, by rw [← Act.put_comm a v undef h2]; exact h⟩
      case defer d =>
        refine ⟨keep _ _ ⟨rfl, rfl⟩, ?_⟩
        rw [← Act.put_comm _ v undef h2, ← Act.put_defers]
        exact h
      case enter f args =>
        refine Calls.mono h fun e w'' he => ?_
        cases e with
        | returned u => exact ⟨keep a u ⟨rfl, rfl⟩, by rw [← Act.put_comm a v u h2]; exact he⟩
        | panicked c => exact hQ _ _ _ he
        | outgrown => exact he
      case row row args => exact Rows.mono h fun u w'' he => ⟨keep a u ⟨rfl, rfl⟩, by rw [← Act.put_comm a v u h2]; exact he⟩
    | halt x w' =>
      cases x <;> simp only [Oper.upon] at h ⊢
      case panic u => exact hQ _ _ _ h
  · rename_i hw
    simp only [hw] at h
    exact ⟨keep a _ ⟨rfl, rfl⟩, by rw [← Act.put_comm a v undef h2]; exact h⟩
/-- One value, in every world that has grown from this one; and it only grows. -/
def YieldsG (P : Program) (ops : Array Oper) (o : Oper) (v : Value) (a : Act) (w : World) : Prop := ∀ w', Below w.heap.size w w' → YieldsIn P ops (fun u => Below w'.heap.size w' u) o v a
theorem YieldsG.on {o : Oper} {v : Value} {a : Act} {w w' : World} (h : YieldsG P ops o v a w) (hb : Below w.heap.size w w') : YieldsG P ops o v a w' := fun w'' hw => h w'' (hb.trans (hw.mono hb.size))
theorem YieldsG.of_same {o : Oper} {v : Value} {a a' : Act} {w : World} (hy : YieldsG P ops o v a w) (he : execOp a'.eval o = execOp a.eval o)
    (hw : Region.wanted o (yielded ops a'.tmps) = Region.wanted o (yielded ops a.tmps)) : YieldsG P ops o v a' w := fun w' h => (hy w' h).of_same he hw
/-- Whatever order is picked among the first n; behind each of them memory has grown, and it may have grown more. -/
def wpGr (P : Program) (md : Region.Mode) (ops : Array Oper) (Q : Exit → Act → World → Prop) (n : Nat) (L : Array Bool → Act → World → Prop) : Nat → Array Bool → Act → World → Prop
  | 0, listed, a, w => L listed a w
  | f + 1, listed, a, w => HeadInv md ops n listed → Region.ready md ops listed ≠ [] ∧
    ∀ i ∈ Region.ready md ops listed, i < n ∧ wpOp P ops Q i (fun a' w' => Below w.heap.size w w' ∧ ∀ w'', Below w'.heap.size w' w'' → wpGr P md ops Q n L f (listed.setIfInBounds i true) a' w'') a w
variable {n : Nat} {L : Array Bool → Act → World → Prop}
theorem wpAny_of_gr {g : Nat} (hL : ∀ listed a w, L listed a w → wpAny P md ops Q g listed a w) :
    ∀ (f : Nat) (listed : Array Bool) (a : Act) (w : World), HeadInv md ops n listed → wpGr P md ops Q n L f listed a w → wpAny P md ops Q (f + g) listed a w
  | 0, listed, a, w, _, h => by rw [Nat.zero_add]; exact hL _ _ _ h
  | f + 1, listed, a, w, inv, h => by
    rw [show f + 1 + g = (f + g) + 1 by omega]
    exact ⟨fun h0 => absurd h0 (h inv).1, fun i hi => wpOp_mono (fun a' w' h' => wpAny_of_gr hL f _ a' w' (inv.set hi ((h inv).2 i hi).1) (h'.2 w' (Below.refl _ _))) ((h inv).2 i hi).2⟩
theorem wpGr_first {i : Nat} {oi : Oper} {v : Value} (hi : ops[i]? = some oi) (hsel : ∀ (j : Nat) (o : Oper) cs b, ops[j]? = some o → o.op ≠ .select cs b)
    (hQ : ∀ c a w, Q (.panic c) (a.put oi.dst v) w → Q (.panic c) a w)
    (hs : Region.sinkB md ops n = true) (hc : Region.chainB md ops n = true) (hn : n < ops.size) (hin : i < n)
    (hdone : ∀ listed a w, L listed a w → ∀ j ∈ Region.ready md ops listed, n ≤ j) :
    ∀ (f : Nat) (listed : Array Bool) (a : Act) (w : World),
      (∀ j oj, ops[j]? = some oj → j ≠ i → listed.getD j true = false → (∀ e ∈ oj.after, Region.binds md e = true → e.on ≠ i) → oi.apart ops oj = true) →
      i ∈ Region.ready md ops listed → YieldsG P ops oi v a w →
      (∀ w', Below w.heap.size w w' → wpGr P md ops Q n L f (listed.setIfInBounds i true) (a.put oi.dst v) w') → wpGr P md ops Q n L (f + 1) listed a w := by
  have self : ∀ (f : Nat) (listed : Array Bool) (a : Act) (w : World), YieldsG P ops oi v a w → (∀ w', Below w.heap.size w w' → wpGr P md ops Q n L f (listed.setIfInBounds i true) (a.put oi.dst v) w') →
      wpOp P ops Q i (fun a' w' => Below w.heap.size w w' ∧ ∀ w'', Below w'.heap.size w' w'' → wpGr P md ops Q n L f (listed.setIfInBounds i true) a' w'') a w := fun f listed a w hy H =>
    wpOp_of_qOp (C := fun u => Below w.heap.size w u) (K := fun a' => a' = a.put oi.dst v) (Below.refl _ _) (fun a' w' hw' ha' => by subst ha'; exact ⟨hw', fun w'' hw'' => H w'' (hw'.trans (hw''.mono hw'.size))⟩)
      ((hy w (Below.refl _ _)).qOp hi rfl)
  intro f
  induction f with
  | zero =>
    intro listed a w _ hr hy H inv
    have hun := (mem_ready.1 hr).1
    refine ⟨fun h => (by rw [h] at hr; cases hr), fun j hj => ?_⟩
    have hjn : j < n := by
      rcases Nat.lt_or_ge j n with h | h
      · exact h
      · exact absurd hj (tail_waits hs hc hn inv _ i rfl hin hun j h)
    refine ⟨hjn, ?_⟩
    by_cases hji : j = i
    · subst hji; exact self 0 listed a w hy H
    · have := hdone _ _ _ (H w (Below.refl _ _)) j (ready_mono hj hji)
      omega
  | succ f ih =>
    intro listed a w hfree hr hy H inv
    have hun := (mem_ready.1 hr).1
    refine ⟨fun h => (by rw [h] at hr; cases hr), fun j hj => ?_⟩
    have hjn : j < n := by
      rcases Nat.lt_or_ge j n with h | h
      · exact h
      · exact absurd hj (tail_waits hs hc hn inv _ i rfl hin hun j h)
    refine ⟨hjn, ?_⟩
    by_cases hji : j = i
    · subst hji; exact self _ listed a w hy H
    · have h1 := ((H w (Below.refl _ _)) (inv.set hr hin)).2 j (ready_mono hj hji) |>.2
      obtain ⟨hjun, oj, hoj, hall⟩ := mem_ready.1 hj
      have hnot : ∀ e ∈ oj.after, Region.binds md e = true → e.on ≠ i := fun e he hb heq => by
        have h1 := hall e he hb
        rw [heq, getD_both hun] at h1
        cases h1
      have h2 := wpOp_putX hoj (hfree j oj hoj hji hjun hnot) (fun cs b => hsel i oi cs b hi) (fun cs b => hsel j oj cs b hoj) hQ h1
      have hfree' : ∀ k ok, ops[k]? = some ok → k ≠ i → (listed.setIfInBounds j true).getD k true = false →
          (∀ e ∈ ok.after, Region.binds md e = true → e.on ≠ i) → oi.apart ops ok = true := fun k ok hk hki hun hno => by
        refine hfree k ok hk hki ?_ hno
        by_cases hjk : j = k
        · subst hjk; exact hjun
        · rw [getD_set_ne true hjk] at hun; exact hun
      refine wpOp_mono (fun a' w' h3 => ?_) h2
      obtain ⟨⟨he, hw⟩, hb, h4⟩ := h3
      refine ⟨hb, fun w'' hw'' => ih (listed.setIfInBounds j true) a' w'' hfree' (ready_mono hr (Ne.symm hji)) ((hy.of_same he hw).on (hb.trans (hw''.mono hb.size))) (fun w3 hw3 => ?_)⟩
      rw [Array.setIfInBounds_comm _ _ hji]
      exact h4 w3 (hw''.trans (hw3.mono hw''.size))
/-- The end: the tail, in one forced order. -/
def GrL (P : Program) (md : Region.Mode) (ops : Array Oper) (Q : Exit → Act → World → Prop) (g n : Nat) (l : List Oper) (listed : Array Bool) (a : Act) (w : World) : Prop := Region.seqB md ops g n listed = true ∧ wpList P ops Q l a w
/-- Number i first. -/
theorem wpGr_take {g f : Nat} {l : List Oper} {i : Nat} {oi : Oper} (v : Value) {listed : Array Bool} {a : Act} {w : World} (hi : ops[i]? = some oi) (hs : (Region.noSelect ops && Region.sinkB md ops n && Region.chainB md ops n && decide (n < ops.size) && decide (i < n)) = true)
    (hf : (Region.free md ops listed i && (Region.ready md ops listed).contains i) = true) (hQ : ∀ c a w, Q (.panic c) (a.put oi.dst v) w → Q (.panic c) a w) (hy : YieldsG P ops oi v a w)
    (h : ∀ w', Below w.heap.size w w' → wpGr P md ops Q n (GrL P md ops Q g n l) f (listed.setIfInBounds i true) (a.put oi.dst v) w') : wpGr P md ops Q n (GrL P md ops Q g n l) (f + 1) listed a w := by
  simp only [Bool.and_eq_true, decide_eq_true_eq] at hs hf
  obtain ⟨⟨⟨⟨h1, h2⟩, h3⟩, h4⟩, h5⟩ := hs
  exact wpGr_first hi (Region.noSelect_spec h1) hQ h2 h3 h4 h5 (fun listed a w hL => seqB_ready hL.1) f listed a w (Region.free_spec hi hf.1) (by simpa using hf.2) hy h
/-- Whichever comes up. -/
theorem wpGr_ready {f : Nat} {rs : List Nat} {listed : Array Bool} {a : Act} {w : World} (hr : Region.ready md ops listed = rs) (hne : rs ≠ []) (hn : rs.all (· < n) = true)
    (h : ∀ i ∈ rs, wpOp P ops Q i (fun a' w' => Below w.heap.size w w' ∧ ∀ w'', Below w'.heap.size w' w'' → wpGr P md ops Q n L f (listed.setIfInBounds i true) a' w'') a w) : wpGr P md ops Q n L (f + 1) listed a w := fun _ =>
  ⟨hr ▸ hne, hr ▸ fun i hi => ⟨by simpa using List.all_eq_true.1 hn i hi, h i hi⟩⟩
theorem wp_region_gr {id : Nat} {a : Act} {w : World} {l : List Oper} (n : Nat) (hm : P.follows .mixedOrders = true) (hn : n < l.length)
    (h : ∀ w', Below w.heap.size w w' → wpGr P .any l.toArray Q n (GrL P .any l.toArray Q (l.length - n) n (l.drop n)) n (Array.replicate l.length false) a w') : (Code.region id l.toArray true).wp P Q a w := by
  have inv0 : HeadInv .any l.toArray n (Array.replicate l.length false) :=
    ⟨by simp, fun j oj _ hl => (by rw [getD_replicate_false] at hl; cases hl), fun t _ ht => getD_in (by simpa using ht) (getD_replicate_false _ _)⟩
  refine wp_region_any hm ?_
  have h1 := h { w with drawn := w.drawn + 1 } (Below.refl _ w).drew
  have := wpAny_of_gr (Q := Q) (g := l.length - n) (fun listed a' w' hL => by
    have := wpAny_of_seq (md := .any) (Q' := Q) (l.drop n) n listed a' w' (fun j => by simp [List.getElem?_drop]) (by rw [List.length_drop]; exact hL.1) hL.2
    rwa [List.length_drop] at this) _ _ _ _ inv0 h1
  rw [show n + (l.length - n) = l.toArray.size by simp; omega] at this
  simpa using this
/-- Blocks that lie. -/
def Cl (w : World) : List (Nat × Array Value × TypeId) → Prop
  | [] => True
  | p :: l => w.heap[p.1]? = some (.cells p.2.1 p.2.2 (0, 0)) ∧ Cl w l
theorem Cl.on {w w' : World} (hb : Below w.heap.size w w') : ∀ {l}, Cl w l → Cl w' l
  | [], _ => trivial
  | p :: l, h => ⟨by rw [hb.block p.1 (by rcases Nat.lt_or_ge p.1 w.heap.size with h' | h'; exact h'; have := h.1; rw [Array.getElem?_eq_none h'] at this; cases this)]; exact h.1, Cl.on hb h.2⟩
theorem Cl.row {w : World} {b : Nat} (cs : Array Value) : ∀ {l : List (Nat × Array Value × TypeId)}, (∀ p ∈ l, p.1 ≠ b) → Cl w l → Cl (w.setRow b cs) l
  | [], _, _ => trivial
  | p :: l, hn, h => ⟨(setRow_other w b p.1 cs (hn p (by simp))).trans h.1, Cl.row cs (fun q hq => hn q (by simp [hq])) h.2⟩
theorem Cl.lt {w : World} : ∀ {l : List (Nat × Array Value × TypeId)}, Cl w l → ∀ p ∈ l, p.1 < w.heap.size
  | [], _, p, hp => by simp at hp
  | q :: l, h, p, hp => by
    rcases List.mem_cons.1 hp with rfl | hp
    · have := h.1
      rcases Nat.lt_or_ge p.1 w.heap.size with h' | h'
      · exact h'
      · rw [Array.getElem?_eq_none h'] at this; cases this
    · exact Cl.lt h.2 p hp
theorem Cl.far {w : World} {l : List (Nat × Array Value × TypeId)} (h : Cl w l) {b : Nat} (hb : w.heap.size ≤ b) : ∀ p ∈ l, p.1 ≠ b := fun p hp => by have := h.lt p hp; omega
theorem Cl.new1 {w w1 : World} {L : List (Nat × Array Value × TypeId)} (h : Cl w L) (hb : Below w.heap.size w w1) {p : Nat} (hp : w.heap.size ≤ p) {X old : Array Value} {t : TypeId} (h1 : w1.heap[p]? = some (.cells old t (0, 0))) :
    Cl (w1.setRow p X) ((p, X, t) :: L) := ⟨setRow_heap _ _ _ _ _ _ h1, (h.on hb).row _ (h.far hp)⟩
/-- In every world that has grown from w0. -/
def wpGrA (P : Program) (md : Region.Mode) (ops : Array Oper) (Q : Exit → Act → World → Prop) (n : Nat) (L : Array Bool → Act → World → Prop) (w0 : World) (f : Nat) (listed : Array Bool) (a : Act) : Prop :=
  ∀ w, Below w0.heap.size w0 w → wpGr P md ops Q n L f listed a w
theorem wpGrA_take {g f : Nat} {l : List Oper} {i : Nat} {oi : Oper} (v : Value) {listed : Array Bool} {a : Act} {w0 : World} (hi : ops[i]? = some oi) (hs : (Region.noSelect ops && Region.sinkB md ops n && Region.chainB md ops n && decide (n < ops.size) && decide (i < n)) = true)
    (hf : (Region.free md ops listed i && (Region.ready md ops listed).contains i) = true) (hQ : ∀ c a w, Q (.panic c) (a.put oi.dst v) w → Q (.panic c) a w) (hy : YieldsG P ops oi v a w0)
    (h : wpGrA P md ops Q n (GrL P md ops Q g n l) w0 f (listed.setIfInBounds i true) (a.put oi.dst v)) : wpGrA P md ops Q n (GrL P md ops Q g n l) w0 (f + 1) listed a := fun w hw =>
  wpGr_take v hi hs hf hQ (hy.on hw) fun w' hw' => h w' (hw.trans (hw'.mono hw.size))
theorem wpGrA_end {g : Nat} {l : List Oper} {listed : Array Bool} {a : Act} {w0 : World} (hB : Region.seqB md ops g n listed = true) (h : ∀ w', Below w0.heap.size w0 w' → wpList P ops Q l a w') : wpGrA P md ops Q n (GrL P md ops Q g n l) w0 0 listed a := fun w hw => ⟨hB, h w hw⟩
theorem wp_region_grA {id : Nat} {a : Act} {w : World} {l : List Oper} (n : Nat) (hm : P.follows .mixedOrders = true) (hn : n < l.length)
    (h : wpGrA P .any l.toArray Q n (GrL P .any l.toArray Q (l.length - n) n (l.drop n)) w n (Array.replicate l.length false) a) : (Code.region id l.toArray true).wp P Q a w := wp_region_gr n hm hn h
end
end
section
open Go Go.RowKit
set_option linter.unusedVariables false
set_option linter.unusedSimpArgs false
section
variable {P : Program} {ops : Array Oper} {Q : Exit → Act → World → Prop} {md : Region.Mode}
theorem yG_val {o : Oper} {a : Act} {w : World} (v : Value) (hw : Region.wanted o (yielded ops a.tmps) = true) (hr : ∀ w', Below w.heap.size w w' → (execOp a.eval o).run P w' = .ok (.value v) w') : YieldsG P ops o v a w := fun w' hw' =>
  .inl ⟨hw, fun u hu => by unfold Oper.quietAt; rw [hr u (hw'.trans (hu.mono hw'.size))]; exact ⟨rfl, rfl⟩⟩
theorem yG_skip {o : Oper} {a : Act} {w : World} (hw : Region.wanted o (yielded ops a.tmps) = false) : YieldsG P ops o undef a w := fun _ _ => .inr ⟨hw, rfl⟩
theorem yG_call {o : Oper} {a : Act} {w : World} {v : Value} {f : FuncId} {args : Array Value} (hw : Region.wanted o (yielded ops a.tmps) = true) (hr : ∀ w', (execOp a.eval o).run P w' = .ok (.enter f args) w')
    (hc : ∀ w', Below w.heap.size w w' → Calls P f args w' (fun e w'' => e = .returned v ∧ Below w'.heap.size w' w'')) : YieldsG P ops o v a w := fun w' hw' =>
  .inl ⟨hw, fun u hu => by
    unfold Oper.quietAt
    rw [hr u]
    exact ⟨rfl, (hc u (hw'.trans (hu.mono hw'.size))).mono fun e w'' h => ⟨h.1, hu.trans (h.2.mono hu.size)⟩⟩⟩
theorem yG_part {o : Oper} {a : Act} {w : World} (hw : Region.wanted o (yielded ops a.tmps) = true) (ty : TypeId) (x : Operand) (ho : o.op = .load ty x)
    (g k : Nat) (hx : a.eval x = .pointer (some ⟨g, k, none⟩)) (t : TypeId) (C cs : Array Value) (fr : Nat × Nat) (d : TypeDesc) (hg : w.heap[g]? = some (.cells C t fr)) (hcs : C.extract k (k + cs.size) = cs)
    (hu : P.underlying ty = some d) (hd : d.isRow = true) (hi : (P.info? ty).map (·.size) = some cs.size) : YieldsG P ops o (.agg cs) a w :=
  yG_val _ hw fun w' hw' => by
    have hb : w'.heap[g]? = some (.cells C t fr) := by
      rw [hw'.block g (by rcases Nat.lt_or_ge g w.heap.size with h | h; exact h; rw [Array.getElem?_eq_none h] at hg; cases hg)]; exact hg
    have hr := World.rangeAt_of_block hb k cs.size
    rw [hcs] at hr
    have h := run_loadAt_mid (P := P) w' g k ty cs.toList d hr hu hd (by simpa using hi)
    simp only [execOp, ho, hx, Sem.run_bind, h, Result.andThen_ok]
    rfl
variable {n : Nat}
/-- A call, whatever it answers: the only one that may come up. -/
theorem wpGrA_call {g f : Nat} {l : List Oper} {i : Nat} {oi : Oper} {listed : Array Bool} {a : Act} {w0 : World} {fn : FuncId} {args : Array Value} (K : World → Value → World → Prop) (hi : ops[i]? = some oi) (hrd : (Region.ready md ops listed == [i] && decide (i < n)) = true)
    (hw : Region.wanted oi (yielded ops a.tmps) = true) (hr : ∀ w', (execOp a.eval oi).run P w' = .ok (.enter fn args) w')
    (hc : ∀ w', Below w0.heap.size w0 w' → Calls P fn args w' (fun e w'' => ∃ v, e = .returned v ∧ Below w'.heap.size w' w'' ∧ K w' v w''))
    (h : ∀ w' v w'', Below w0.heap.size w0 w' → Below w'.heap.size w' w'' → K w' v w'' → wpGrA P md ops Q n (GrL P md ops Q g n l) w'' f (listed.setIfInBounds i true) (a.put oi.dst v)) : wpGrA P md ops Q n (GrL P md ops Q g n l) w0 (f + 1) listed a := fun w hb => by
  simp only [Bool.and_eq_true, decide_eq_true_eq, beq_iff_eq] at hrd
  refine wpGr_ready hrd.1 (by simp) (by simp [hrd.2]) fun j hj => ?_
  simp only [List.mem_singleton] at hj
  subst hj
  unfold wpOp
  simp only [hi]
  rw [if_pos hw]
  refine .inl ?_
  unfold Oper.wp
  rw [hr w]
  refine (hc w hb).mono fun e w'' ⟨v, he, hb2, hk⟩ => ?_
  subst he
  exact ⟨hb2, fun w3 hw3 => h w v w'' hb hb2 hk w3 hw3⟩
end
theorem grown_one (w : World) (g : Nat) (cs : Array Value) : w.grownBy (w.setRow g cs) (some g) :=
  ⟨rfl, rfl, rfl, by rw [size_setRow]; exact Nat.le_refl _, fun k hk hne => setRow_other w g k cs (fun e => hne (by rw [e]))⟩
/-- Slices that lie. -/
def Sqs (w : World) : List (Option Addr × Nat × List Value) → Prop
  | [] => True
  | q :: M => Sq w w.heap.size q.1 q.2.1 q.2.2 ∧ Sqs w M
theorem Sqs.on {w w' : World} (hb : Below w.heap.size w w') : ∀ {M}, Sqs w M → Sqs w' M
  | [], _ => trivial
  | q :: M, h => ⟨(h.1.below hb).more hb.size, Sqs.on hb h.2⟩
/-- The blocks L (apart, all made since w) and the slices M, in w1. -/
structure St (w w1 : World) (L : List (Nat × Array Value × TypeId)) (M : List (Option Addr × Nat × List Value)) : Prop where
  below : Below w.heap.size w w1
  cl : Cl w1 L
  nd : (L.map (·.1)).Nodup
  own : ∀ p ∈ L, w.heap.size ≤ p.1
  sq : Sqs w1 M
section
variable {w w1 w2 : World} {L : List (Nat × Array Value × TypeId)} {M : List (Option Addr × Nat × List Value)}
theorem St.on (h : St w w1 L M) (hb : Below w1.heap.size w1 w2) : St w w2 L M := ⟨h.below.trans (hb.mono h.below.size), h.cl.on hb, h.nd, h.own, h.sq.on hb⟩
theorem St.alloc (h : St w w1 L M) (hb : Below w1.heap.size w1 w2) {p : Nat} (hp : w1.heap.size ≤ p) {z : Array Value} {t : TypeId} (hz : w2.heap[p]? = some (.cells z t (0, 0))) : St w w2 ((p, z, t) :: L) M := by
  refine ⟨h.below.trans (hb.mono h.below.size), ⟨hz, h.cl.on hb⟩, ?_, fun q hq => ?_, h.sq.on hb⟩
  · rw [List.map_cons, List.nodup_cons]
    refine ⟨fun hm => ?_, h.nd⟩
    obtain ⟨q, hq, he⟩ := List.mem_map.1 hm
    exact h.cl.far hp q hq he
  · rcases List.mem_cons.1 hq with rfl | hq
    · exact Nat.le_trans h.below.size hp
    · exact h.own q hq
theorem St.more (h : St w w1 L M) {A : Option Addr} {c : Nat} {xs : List Value} (hs : Sq w1 w1.heap.size A c xs) : St w w1 L ((A, c, xs) :: M) := ⟨h.below, h.cl, h.nd, h.own, hs, h.sq⟩
theorem Cl.setAt {p : Nat} {X : Array Value} : ∀ {L : List (Nat × Array Value × TypeId)} (i : Nat) {old : Array Value} {t : TypeId}, (L.map (·.1)).Nodup → L[i]? = some (p, old, t) → Cl w1 L → Cl (w1.setRow p X) (L.set i (p, X, t))
  | [], i, _, _, _, hi, _ => by simp at hi
  | q :: L, 0, old, t, hn, hi, h => by
    simp only [List.getElem?_cons_zero, Option.some.injEq] at hi
    subst hi
    rw [List.map_cons, List.nodup_cons] at hn
    exact ⟨setRow_heap _ _ _ _ _ _ h.1, h.2.row _ fun r hr e => hn.1 (List.mem_map.2 ⟨r, hr, e⟩)⟩
  | q :: L, i + 1, old, t, hn, hi, h => by
    simp only [List.getElem?_cons_succ] at hi
    rw [List.map_cons, List.nodup_cons] at hn
    have hne : q.1 ≠ p := fun e => hn.1 (List.mem_map.2 ⟨(p, old, t), List.mem_of_getElem? hi, e.symm⟩)
    exact ⟨(setRow_other _ _ _ _ hne).trans h.1, Cl.setAt i hn.2 hi h.2⟩
theorem Sqs.far {p : Nat} (hp : w1.heap.size ≤ p) : ∀ {M : List (Option Addr × Nat × List Value)}, Sqs w1 M → ∀ q ∈ M, NotIn q.1 q.2.2 p
  | [], _, _, hq => by cases hq
  | r :: M, h, q, hq => by
    rcases List.mem_cons.1 hq with rfl | hq
    · exact h.1.notIn hp
    · exact Sqs.far hp h.2 q hq
theorem Sqs.row {p : Nat} (X : Array Value) : ∀ {M : List (Option Addr × Nat × List Value)}, (∀ q ∈ M, NotIn q.1 q.2.2 p) → Sqs w1 M → Sqs (w1.setRow p X) M
  | [], _, _ => trivial
  | q :: M, hn, h => ⟨by
    rw [size_setRow]
    exact h.1.other (grown_one w1 p X) (Nat.le_refl _) (hn q (by simp)), Sqs.row X (fun r hr => hn r (by simp [hr])) h.2⟩
theorem St.put (h : St w w1 L M) (i : Nat) {p : Nat} {old X : Array Value} {t : TypeId} (hi : L[i]? = some (p, old, t)) (hM : ∀ q ∈ M, NotIn q.1 q.2.2 p) : St w (w1.setRow p X) (L.set i (p, X, t)) M := by
  have hm : (p, old, t) ∈ L := List.mem_of_getElem? hi
  refine ⟨belowRow h.below (h.own _ hm) X, h.cl.setAt i h.nd hi, ?_, fun q hq => ?_, h.sq.row X hM⟩
  · rw [List.map_set, show (p, X, t).1 = p from rfl]
    have : (L.map (·.1)).set i p = L.map (·.1) := by
      refine List.ext_getElem? fun j => ?_
      rw [List.getElem?_set]
      split
      · rename_i e; subst e
        split
        · rw [List.getElem?_map, hi]; rfl
        · rename_i hl; rw [List.getElem?_eq_none (by omega)]
      · rfl
    rw [this]; exact h.nd
  · rcases List.mem_or_eq_of_mem_set hq with hq | rfl
    · exact h.own q hq
    · exact h.own (p, old, t) hm
end
end
end Go.Proofs.Ythooibljnfnnhaa
end
