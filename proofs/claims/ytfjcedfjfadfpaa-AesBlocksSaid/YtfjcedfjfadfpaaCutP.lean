/-
  A cut in a walk: what holds behind a piece of code, of the frame ahead of it.
  Frames: a box; three allocs of a drawn region.
-/
import Derived.Test.YtfjcedfjfadfpaaSym
import Derived.Great.Walk
namespace Go.Proofs.Ytfjcedfjfadfpaa
section
open Go Go.RowKit
set_option linter.unusedVariables false
set_option linter.unusedSimpArgs false
/-- The piece c ends so that R holds; R leads on. -/
theorem wp_cutA {P : Program} {c : Code} {a : Act} {w : World} {Q : Exit → Act → World → Prop} (R : Act → Exit → Act → World → Prop) (h : ∀ e a' w', R a e a' w' → Q e a' w') (hc : c.wp P (R a) a w) : c.wp P Q a w :=
  Code.wp_mono h hc
theorem St.less {w w1 : World} {L : List (Nat × Array Value × TypeId)} {M : List (Option Addr × Nat × List Value)} (h : St w w1 L M) : St w w1 L [] := ⟨h.below, h.cl, h.nd, h.own, trivial⟩
section
variable {P : Program} {ops : Array Oper} {Q : Exit → Act → World → Prop} {md : Region.Mode} {n : Nat}
/-- A slice that is made of what is said. -/
theorem wpOp_sliceTo {i : Nat} {o : Oper} {K : Act → World → Prop} {a : Act} {w : World} (hi : ops[i]? = some o) (hg : Region.wanted o (yielded ops a.tmps) = true) (t e : TypeId) (len : Nat) (parts : Array (Nat × Operand)) (ho : o.op = .buildSlice t len parts)
    (hu : P.underlying t = some (.slice e)) (cells : Array Value) (hf : P.builtSlice e len (parts.map fun (i, x) => (i, a.eval x)).toList = some cells)
    (h : K (a.put o.dst (.slice (some ⟨w.heap.size, 0, none⟩) len len)) (w.alloc (.cells cells e))) : wpOp P ops Q i K a w := by
  unfold wpOp
  simp only [hi]
  rw [if_pos hg]
  refine .inl ?_
  unfold Program.builtSlice at hf
  cases hie : P.info? e with
  | none => simp [hie] at hf
  | some ie =>
    simp only [hie] at hf
    cases hz : ie.zero with
    | none => simp [hz] at hf
    | some z =>
      simp only [hz] at hf
      by_cases hc : len * ie.size > 2 ^ 24 ∨ len * ie.size = 0
      · simp [hc] at hf
      · rw [if_neg hc] at hf
        exact wp_buildSlice t e len parts ho cells ie z hu hie hz (fun h' => hc (Or.inl h')) (fun h' => hc (Or.inr h')) hf h
/-- The same in a drawn region: the only one that may come up. -/
theorem wpGrA_slice {g f : Nat} {l : List Oper} {i : Nat} {oi : Oper} {listed : Array Bool} {a : Act} {w0 : World} (hi : ops[i]? = some oi) (hrd : (Region.ready md ops listed == [i] && decide (i < n)) = true)
    (hw : Region.wanted oi (yielded ops a.tmps) = true) (t e : TypeId) (len : Nat) (parts : Array (Nat × Operand)) (ho : oi.op = .buildSlice t len parts) (hu : P.underlying t = some (.slice e))
    (ls : List (Nat × Value)) (hl : (parts.toList.map fun (i, x) => (i, a.eval x)) = ls) (xs : List Value) (hf : P.builtSlice e len ls = some xs.toArray) (hn : xs.length ≤ len) (hm : len ≤ 9223372036854775807)
    (h : ∀ p w2, Below w0.heap.size w0 w2 → Sq w2 w2.heap.size (some ⟨p, 0, none⟩) len xs → wpGrA P md ops Q n (GrL P md ops Q g n l) w2 f (listed.setIfInBounds i true) (a.put oi.dst (.slice (some ⟨p, 0, none⟩) len len))) : wpGrA P md ops Q n (GrL P md ops Q g n l) w0 (f + 1) listed a := fun w hb => by
  simp only [Bool.and_eq_true, decide_eq_true_eq, beq_iff_eq] at hrd
  refine wpGr_ready hrd.1 (by simp) (by simp [hrd.2]) fun j hj => ?_
  simp only [List.mem_singleton] at hj
  subst hj
  refine wpOp_sliceTo hi hw t e len parts ho hu xs.toArray (by rw [Array.toList_map, hl]; exact hf) ⟨(Below.refl _ _).alloc (Nat.le_refl _) _, fun w3 hw3 => ?_⟩
  refine h w.heap.size (w.alloc (.cells xs.toArray e)) (hb.alloc hb.size _) (.inr ⟨w.heap.size, 0, rfl, by simp, by simpa using hn, hm, fun j u hj => ?_⟩) w3 hw3
  rw [Nat.zero_add, cell_of_row _ _ j _ e (0, 0) (heap_alloc_new w _)]
  simpa using hj
end
end

section
open Go Go.RowKit
set_option linter.unusedVariables false
set_option linter.unusedSimpArgs false
section
variable {P : Program} {ops : Array Oper} {Q : Exit → Act → World → Prop} {md : Region.Mode} {n : Nat}

theorem exec_box {o : Oper} {ty : TypeId} {x : Operand} (ho : o.op = .box ty x) {e : Operand → Value} {cs : Array Value} (hx : e x = .agg cs) (w : World) :
    (execOp e o).run P w = .ok (.value (.pointer (some ⟨w.heap.size, 0, none⟩))) (w.alloc (.cells cs ty)) := by
  simp only [execOp, ho, Instr.box]
  simp [hx, Value.cells, newVar, newRow]
/-- A variable that begins with what came in. -/
theorem wpLA_box {o : Oper} {rest : List Oper} {a : Act} {w0 : World} {ty : TypeId} {x : Operand} (cs : Array Value) (hw : Region.wanted o (yielded ops a.tmps) = true) (ho : o.op = .box ty x) (hx : a.eval x = .agg cs)
    (h : ∀ p w', w0.heap.size ≤ p → w'.heap[p]? = some (.cells cs ty (0, 0)) → Below w0.heap.size w0 w' → wpLA P ops Q w' rest (a.put o.dst (.pointer (some ⟨p, 0, none⟩)))) : wpLA P ops Q w0 (o :: rest) a := .mk fun w hb =>
  BigFrame.wpList_want hw fun K' hK => by
    unfold Oper.wp
    rw [exec_box ho hx w]
    exact hK _ _ ((h w.heap.size (w.alloc (.cells cs ty)) hb.size (blkN rfl cs ty) (hb.alloc hb.size _)).out _ (Below.refl _ _))
theorem wpGr_alloc {f : Nat} {i : Nat} {oi : Oper} {ti : TypeId} {zi : Array Value} {ki : Nat} {L : Array Bool → Act → World → Prop} {listed : Array Bool} {a : Act} {w0 w : World} (hi : ops[i]? = some oi) (hgi : oi.guard = none) (hoi : oi.op = .alloc ti)
    (hzi : (P.info? ti).map (fun i => (i.zero, i.size)) = some (some (.agg zi), ki)) (hw : Below w0.heap.size w0 w)
    (h : ∀ p w', w0.heap.size ≤ p → w'.heap[p]? = some (.cells zi ti (0, 0)) → Below w0.heap.size w0 w' → wpGr P md ops Q n L f (listed.setIfInBounds i true) (a.put oi.dst (.pointer (some ⟨p, 0, none⟩))) w') :
    wpOp P ops Q i (fun a' w' => Below w.heap.size w w' ∧ ∀ w'', Below w'.heap.size w' w'' → wpGr P md ops Q n L f (listed.setIfInBounds i true) a' w'') a w := by
  refine wpOp_alloc hi hgi hoi (exec_alloc hoi hzi _ w) ⟨(Below.refl _ _).alloc (Nat.le_refl _) _, fun w'' hw'' => h _ w'' hw.size ?_ ?_⟩
  · rw [hw''.block _ (by simp)]; exact blkN rfl zi ti
  · exact hw.trans ((((Below.refl _ _).alloc (Nat.le_refl _) _).trans (hw''.mono (by simp))).mono hw.size)
theorem put_comm' (a : Act) {si sj : Option Tmp} {i j : Nat} (hi : si = some i) (hj : sj = some j) (hne : i ≠ j) (u v : Value) : (a.put si u).put sj v = (a.put sj v).put si u := by
  rw [hi, hj]
  exact Act.put_comm a _ _ (by simpa using Ne.symm hne)
/-- Three allocs, in any order, of one kind. -/
theorem wpGrA_alloc3 {g : Nat} {l : List Oper} {i j k : Nat} {oi oj ok : Oper} {ti : TypeId} {zi : Array Value} {ki : Nat} {listed : Array Bool} {a : Act} {w0 : World} (hi : ops[i]? = some oi) (hj : ops[j]? = some oj) (hk : ops[k]? = some ok)
    (hgi : oi.guard = none) (hgj : oj.guard = none) (hgk : ok.guard = none) (hoi : oi.op = .alloc ti) (hoj : oj.op = .alloc ti) (hok : ok.op = .alloc ti)
    (hz : (P.info? ti).map (fun i => (i.zero, i.size)) = some (some (.agg zi), ki)) {si sj sk : Nat} (hsi : oi.dst = some si) (hsj : oj.dst = some sj) (hsk : ok.dst = some sk)
    (hr : (Region.ready md ops listed == [i, j, k] && decide (i < n) && decide (j < n) && decide (k < n) && decide (i ≠ j) && decide (i ≠ k) && decide (j ≠ k) && decide (si ≠ sj) && decide (si ≠ sk) && decide (sj ≠ sk)
      && Region.ready md ops (listed.setIfInBounds i true) == [j, k] && Region.ready md ops (listed.setIfInBounds j true) == [i, k] && Region.ready md ops (listed.setIfInBounds k true) == [i, j]
      && Region.ready md ops ((listed.setIfInBounds i true).setIfInBounds j true) == [k] && Region.ready md ops ((listed.setIfInBounds i true).setIfInBounds k true) == [j] && Region.ready md ops ((listed.setIfInBounds j true).setIfInBounds k true) == [i]
      && Region.seqB md ops g n (((listed.setIfInBounds i true).setIfInBounds j true).setIfInBounds k true)) = true)
    (h : ∀ p q r w', w0.heap.size ≤ p → w0.heap.size ≤ q → w0.heap.size ≤ r → p ≠ q → p ≠ r → q ≠ r → w'.heap[p]? = some (.cells zi ti (0, 0)) → w'.heap[q]? = some (.cells zi ti (0, 0)) → w'.heap[r]? = some (.cells zi ti (0, 0)) → Below w0.heap.size w0 w' →
      wpList P ops Q l (((a.put oi.dst (.pointer (some ⟨p, 0, none⟩))).put oj.dst (.pointer (some ⟨q, 0, none⟩))).put ok.dst (.pointer (some ⟨r, 0, none⟩))) w') :
    wpGrA P md ops Q n (GrL P md ops Q g n l) w0 3 listed a := fun w hw => by
  simp only [Bool.and_eq_true, decide_eq_true_eq, beq_iff_eq, ne_eq] at hr
  obtain ⟨⟨⟨⟨⟨⟨⟨⟨⟨⟨⟨⟨⟨⟨⟨⟨r1, hin⟩, hjn⟩, hkn⟩, hij⟩, hik⟩, hjk⟩, sij⟩, sik⟩, sjk⟩, r2⟩, r3⟩, r4⟩, r5⟩, r6⟩, r7⟩, r8⟩ := hr
  have lt : ∀ {p : Nat} {W : World} {o : Obj}, W.heap[p]? = some o → p < W.heap.size := fun {p W o} h => by
    rcases Nat.lt_or_ge p W.heap.size with h' | h'
    · exact h'
    · rw [Array.getElem?_eq_none h'] at h; cases h
  have cij : (listed.setIfInBounds j true).setIfInBounds i true = (listed.setIfInBounds i true).setIfInBounds j true := Array.setIfInBounds_comm _ _ (Ne.symm hij)
  have cik : (listed.setIfInBounds k true).setIfInBounds i true = (listed.setIfInBounds i true).setIfInBounds k true := Array.setIfInBounds_comm _ _ (Ne.symm hik)
  have cjk : (listed.setIfInBounds k true).setIfInBounds j true = (listed.setIfInBounds j true).setIfInBounds k true := Array.setIfInBounds_comm _ _ (Ne.symm hjk)
  have c3 : ((listed.setIfInBounds i true).setIfInBounds k true).setIfInBounds j true = ((listed.setIfInBounds i true).setIfInBounds j true).setIfInBounds k true := Array.setIfInBounds_comm _ _ (Ne.symm hjk)
  have c4 : ((listed.setIfInBounds j true).setIfInBounds k true).setIfInBounds i true = ((listed.setIfInBounds i true).setIfInBounds j true).setIfInBounds k true := by
    rw [Array.setIfInBounds_comm _ _ (Ne.symm hik), cij]
  have two : ∀ {x y : Nat} {ox oy : Oper} (_ : ops[x]? = some ox) (_ : ops[y]? = some oy) (_ : ox.guard = none) (_ : oy.guard = none) (_ : ox.op = .alloc ti) (_ : oy.op = .alloc ti) (_ : x < n) (_ : y < n) {listed' : Array Bool} {a' : Act} {w1 : World},
      Below w0.heap.size w0 w1 → Region.ready md ops listed' = [x, y] → Region.ready md ops (listed'.setIfInBounds x true) = [y] → Region.ready md ops (listed'.setIfInBounds y true) = [x] →
      (Region.seqB md ops g n ((listed'.setIfInBounds x true).setIfInBounds y true) = true) → (Region.seqB md ops g n ((listed'.setIfInBounds y true).setIfInBounds x true) = true) →
      (∀ p q w', w1.heap.size ≤ p → w1.heap.size ≤ q → p ≠ q → w'.heap[p]? = some (.cells zi ti (0, 0)) → w'.heap[q]? = some (.cells zi ti (0, 0)) → Below w1.heap.size w1 w' → wpList P ops Q l ((a'.put ox.dst (.pointer (some ⟨p, 0, none⟩))).put oy.dst (.pointer (some ⟨q, 0, none⟩))) w' ∧ wpList P ops Q l ((a'.put oy.dst (.pointer (some ⟨q, 0, none⟩))).put ox.dst (.pointer (some ⟨p, 0, none⟩))) w') →
      wpGr P md ops Q n (GrL P md ops Q g n l) 2 listed' a' w1 := by
    intro x y ox oy hx hy hgx hgy hox hoy hxn hyn listed' a' w1 hb1 q1 q2 q3 q4 q5 H
    refine wpGr_ready q1 (by simp) (by simp [hxn, hyn]) fun m hm => ?_
    simp only [List.mem_cons, List.not_mem_nil, or_false] at hm
    rcases hm with rfl | rfl
    · refine wpGr_alloc hx hgx hox hz (Below.refl w1.heap.size w1) fun p w2 hp hpz hb2 => ?_
      refine wpGr_ready q2 (by simp) (by simp [hyn]) fun m hm => ?_
      simp only [List.mem_singleton] at hm
      subst hm
      refine wpGr_alloc hy hgy hoy hz (Below.refl w2.heap.size w2) fun q w3 hq hqz hb3 => ⟨q4, ?_⟩
      have := lt hpz
      have hs := hb2.size
      refine (H p q w3 hp (by omega) (by omega) ?_ hqz (hb2.trans (hb3.mono hs))).1
      rw [hb3.block _ this]; exact hpz
    · refine wpGr_alloc hy hgy hoy hz (Below.refl w1.heap.size w1) fun p w2 hp hpz hb2 => ?_
      refine wpGr_ready q3 (by simp) (by simp [hxn]) fun m hm => ?_
      simp only [List.mem_singleton] at hm
      subst hm
      refine wpGr_alloc hx hgx hox hz (Below.refl w2.heap.size w2) fun q w3 hq hqz hb3 => ⟨q5, ?_⟩
      have := lt hpz
      have hs := hb2.size
      refine (H q p w3 (by omega) hp (by omega) hqz ?_ (hb2.trans (hb3.mono hs))).2
      rw [hb3.block _ this]; exact hpz
  refine wpGr_ready r1 (by simp) (by simp [hin, hjn, hkn]) fun m hm => ?_
  simp only [List.mem_cons, List.not_mem_nil, or_false] at hm
  rcases hm with rfl | rfl | rfl
  · refine wpGr_alloc hi hgi hoi hz hw fun p w1 hp hpz hb => ?_
    have hpl := lt hpz
    have hs := hb.size
    refine two hj hk hgj hgk hoj hok hjn hkn hb r2 r5 r6 r8 (by rw [c3]; exact r8) fun q r w' hq hr' hne hqz hrz hb' => ?_
    have hp' : w'.heap[p]? = some (.cells zi ti (0, 0)) := by rw [hb'.block _ hpl]; exact hpz
    have H := h p q r w' hp (by omega) (by omega) (by omega) (by omega) hne hp' hqz hrz (hb.trans (hb'.mono hs))
    exact ⟨H, by rw [put_comm' _ hsk hsj (Ne.symm sjk)]; exact H⟩
  · refine wpGr_alloc hj hgj hoj hz hw fun q w1 hq hqz hb => ?_
    have hql := lt hqz
    have hs := hb.size
    refine two hi hk hgi hgk hoi hok hin hkn hb r3 (by rw [cij]; exact r5) r7 (by rw [cij]; exact r8) (by rw [c4]; exact r8) fun p r w' hp hr' hne hpz hrz hb' => ?_
    have hq' : w'.heap[q]? = some (.cells zi ti (0, 0)) := by rw [hb'.block _ hql]; exact hqz
    have H := h p q r w' (by omega) hq (by omega) (by omega) hne (by omega) hpz hq' hrz (hb.trans (hb'.mono hs))
    refine ⟨by rw [put_comm' _ hsj hsi (Ne.symm sij)]; exact H, ?_⟩
    rw [put_comm' _ hsk hsi (Ne.symm sik), put_comm' _ hsj hsi (Ne.symm sij)]
    exact H
  · refine wpGr_alloc hk hgk hok hz hw fun r w1 hr' hrz hb => ?_
    have hrl := lt hrz
    have hs := hb.size
    refine two hi hj hgi hgj hoi hoj hin hjn hb r4 (by rw [cik]; exact r6) (by rw [cjk]; exact r7) (by rw [cik, c3]; exact r8) (by rw [cjk, c4]; exact r8) fun p q w' hp hq hne hpz hqz hb' => ?_
    have hr2 : w'.heap[r]? = some (.cells zi ti (0, 0)) := by rw [hb'.block _ hrl]; exact hrz
    have H := h p q r w' (by omega) (by omega) hr' hne (by omega) (by omega) hpz hqz hr2 (hb.trans (hb'.mono hs))
    refine ⟨?_, ?_⟩
    · rw [put_comm' _ hsk hsi (Ne.symm sik), put_comm' _ hsk hsj (Ne.symm sjk)]
      exact H
    · rw [put_comm' _ hsk hsj (Ne.symm sjk), put_comm' _ hsk hsi (Ne.symm sik), put_comm' _ hsj hsi (Ne.symm sij)]
      exact H
end
section
variable {w w1 w2 : World} {L : List (Nat × Array Value × TypeId)} {M : List (Option Addr × Nat × List Value)}
theorem St.alloc2 (h : St w w1 L M) (hb : Below w1.heap.size w1 w2) {p q : Nat} (hp : w1.heap.size ≤ p) (hq : w1.heap.size ≤ q) (hne : p ≠ q) {z y : Array Value} {t u : TypeId} (hz : w2.heap[p]? = some (.cells z t (0, 0))) (hy : w2.heap[q]? = some (.cells y u (0, 0))) : St w w2 ((p, z, t) :: (q, y, u) :: L) M := by
  have h1 := h.alloc hb hq hy
  refine ⟨h1.below, ⟨hz, h1.cl⟩, ?_, fun r hr => ?_, h1.sq⟩
  · rw [List.map_cons, List.nodup_cons]
    refine ⟨fun hm => ?_, h1.nd⟩
    obtain ⟨r, hr, he⟩ := List.mem_map.1 hm
    rcases List.mem_cons.1 hr with rfl | hr
    · exact hne he.symm
    · exact h.cl.far hp r hr he
  · rcases List.mem_cons.1 hr with rfl | hr
    · exact Nat.le_trans h.below.size hp
    · exact h1.own r hr
theorem St.alloc3 (h : St w w1 L M) (hb : Below w1.heap.size w1 w2) {p q r : Nat} (hp : w1.heap.size ≤ p) (hq : w1.heap.size ≤ q) (hr : w1.heap.size ≤ r) (hpq : p ≠ q) (hpr : p ≠ r) (hqr : q ≠ r) {z y x : Array Value} {t u v : TypeId} (hz : w2.heap[p]? = some (.cells z t (0, 0))) (hy : w2.heap[q]? = some (.cells y u (0, 0))) (hx : w2.heap[r]? = some (.cells x v (0, 0))) : St w w2 ((p, z, t) :: (q, y, u) :: (r, x, v) :: L) M := by
  have h1 := h.alloc2 hb hq hr hqr hy hx
  refine ⟨h1.below, ⟨hz, h1.cl⟩, ?_, fun s hs => ?_, h1.sq⟩
  · rw [List.map_cons, List.nodup_cons]
    refine ⟨fun hm => ?_, h1.nd⟩
    obtain ⟨s, hs, he⟩ := List.mem_map.1 hm
    rcases List.mem_cons.1 hs with rfl | hs
    · exact hpq he.symm
    rcases List.mem_cons.1 hs with rfl | hs
    · exact hpr he.symm
    · exact h.cl.far hp s hs he
  · rcases List.mem_cons.1 hs with rfl | hs
    · exact Nat.le_trans h.below.size hp
    · exact h1.own s hs
end
end
end Go.Proofs.Ytfjcedfjfadfpaa
