/-
  Texts of this claim in one file: CutP, CuE, CuA.
-/
import Derived.Test.YtgehfbcagaaggaaGreatDoorPk34
import Derived.Great.Walk
import Derived.Test.YtgehfbcagaaggaaGreatDoorPk17
import Derived.Test.YtgehfbcagaaggaaGreatDoorPk10
import Derived.Test.YtgehfbcagaaggaaGreatDoorPk11
import Derived.Test.YtgehfbcagaaggaaGreatDoorPk7
section
namespace Go.Proofs.YtgehfbcagaaggaaGreatDoor
section
open Go Go.RowKit
set_option linter.unusedVariables false
set_option linter.unusedSimpArgs false
theorem St.less {w w1 : World} {L : List (Nat × Array Value × TypeId)} {M : List (Option Addr × Nat × List Value)} (h : St w w1 L M) : St w w1 L [] := ⟨h.below, h.cl, h.nd, h.own, trivial⟩
end
section
open Go Go.RowKit
set_option linter.unusedVariables false
set_option linter.unusedSimpArgs false
section
variable {P : Program} {ops : Array Oper} {Q : Exit → Act → World → Prop} {md : Region.Mode} {n : Nat}
theorem exec_box {o : Oper} {ty : TypeId} {x : Operand} (ho : o.op = .box ty x) {e : Operand → Value} {cs : Array Value} (hx : e x = .agg cs) (w : World) :
    (execOp e o).run P w = .ok (.value (.pointer (some ⟨w.heap.size, 0, none⟩))) (w.alloc (.cells cs ty)) := by
  simp only [execOp, ho, Instr.box]
  simp [hx, Value.cells, newVar, newRow]
/-- A variable that begins with what came in. -/
theorem wpLA_box {o : Oper} {rest : List Oper} {a : Act} {w0 : World} {ty : TypeId} {x : Operand} (cs : Array Value) (hw : Region.wanted o (yielded ops a.tmps) = true) (ho : o.op = .box ty x) (hx : a.eval x = .agg cs)
    (h : ∀ p w', w0.heap.size ≤ p → w'.heap[p]? = some (.cells cs ty (0, 0)) → Below w0.heap.size w0 w' → wpLA P ops Q w' rest (a.put o.dst (.pointer (some ⟨p, 0, none⟩)))) : wpLA P ops Q w0 (o :: rest) a := .mk fun w hb =>
  BigFrame.wpList_want hw fun K' hK => by
    unfold Oper.wp
    rw [exec_box ho hx w]
    exact hK _ _ ((h w.heap.size (w.alloc (.cells cs ty)) hb.size (blkN rfl cs ty) (hb.alloc hb.size _)).out _ (Below.refl _ _))
theorem wpGr_alloc {f : Nat} {i : Nat} {oi : Oper} {ti : TypeId} {zi : Array Value} {ki : Nat} {L : Array Bool → Act → World → Prop} {listed : Array Bool} {a : Act} {w0 w : World} (hi : ops[i]? = some oi) (hgi : oi.guard = none) (hoi : oi.op = .alloc ti)
    (hzi : (P.info? ti).map (fun i => (i.zero, i.size)) = some (some (.agg zi), ki)) (hw : Below w0.heap.size w0 w)
    (h : ∀ p w', w0.heap.size ≤ p → w'.heap[p]? = some (.cells zi ti (0, 0)) → Below w0.heap.size w0 w' → wpGr P md ops Q n L f (listed.setIfInBounds i true) (a.put oi.dst (.pointer (some ⟨p, 0, none⟩))) w') :
    wpOp P ops Q i (fun a' w' => Below w.heap.size w w' ∧ ∀ w'', Below w'.heap.size w' w'' → wpGr P md ops Q n L f (listed.setIfInBounds i true) a' w'') a w := by
  refine wpOp_alloc hi hgi hoi (exec_alloc hoi hzi _ w) ⟨(Below.refl _ _).alloc (Nat.le_refl _) _, fun w'' hw'' => h _ w'' hw.size ?_ ?_⟩
  · rw [hw''.block _ (by simp)]; exact blkN rfl zi ti
  · exact hw.trans ((((Below.refl _ _).alloc (Nat.le_refl _) _).trans (hw''.mono (by simp))).mono hw.size)
theorem put_comm' (a : Act) {si sj : Option Tmp} {i j : Nat} (hi : si = some i) (hj : sj = some j) (hne : i ≠ j) (u v : Value) : (a.put si u).put sj v = (a.put sj v).put si u := by
  rw [hi, hj]
  exact Act.put_comm a _ _ (by simpa using Ne.symm hne)
/-- Three allocs, in any order, of one kind. -/
theorem wpGrA_alloc3 {g : Nat} {l : List Oper} {i j k : Nat} {oi oj ok : Oper} {ti : TypeId} {zi : Array Value} {ki : Nat} {listed : Array Bool} {a : Act} {w0 : World} (hi : ops[i]? = some oi) (hj : ops[j]? = some oj) (hk : ops[k]? = some ok)
    (hgi : oi.guard = none) (hgj : oj.guard = none) (hgk : ok.guard = none) (hoi : oi.op = .alloc ti) (hoj : oj.op = .alloc ti) (hok : ok.op = .alloc ti)
    (hz : (P.info? ti).map (fun i => (i.zero, i.size)) = some (some (.agg zi), ki)) {si sj sk : Nat} (hsi : oi.dst = some si) (hsj : oj.dst = some sj) (hsk : ok.dst = some sk)
    (hr : (Region.ready md ops listed == [i, j, k] && decide (i < n) && decide (j < n) && decide (k < n) && decide (i ≠ j) && decide (i ≠ k) && decide (j ≠ k) && decide (si ≠ sj) && decide (si ≠ sk) && decide (sj ≠ sk)
      && Region.ready md ops (listed.setIfInBounds i true) == [j, k] && Region.ready md ops (listed.setIfInBounds j true) == [i, k] && Region.ready md ops (listed.setIfInBounds k true) == [i, j]
      && Region.ready md ops ((listed.setIfInBounds i true).setIfInBounds j true) == [k] && Region.ready md ops ((listed.setIfInBounds i true).setIfInBounds k true) == [j] && Region.ready md ops ((listed.setIfInBounds j true).setIfInBounds k true) == [i]
      && Region.seqB md ops g n (((listed.setIfInBounds i true).setIfInBounds j true).setIfInBounds k true)) = true)
    (h : ∀ p q r w', w0.heap.size ≤ p → w0.heap.size ≤ q → w0.heap.size ≤ r → p ≠ q → p ≠ r → q ≠ r → w'.heap[p]? = some (.cells zi ti (0, 0)) → w'.heap[q]? = some (.cells zi ti (0, 0)) → w'.heap[r]? = some (.cells zi ti (0, 0)) → Below w0.heap.size w0 w' →
      wpList P ops Q l (((a.put oi.dst (.pointer (some ⟨p, 0, none⟩))).put oj.dst (.pointer (some ⟨q, 0, none⟩))).put ok.dst (.pointer (some ⟨r, 0, none⟩))) w') :
    wpGrA P md ops Q n (GrL P md ops Q g n l) w0 3 listed a := fun w hw => by
  simp only [Bool.and_eq_true, decide_eq_true_eq, beq_iff_eq, ne_eq] at hr
  obtain ⟨⟨⟨⟨⟨⟨⟨⟨⟨⟨⟨⟨⟨⟨⟨⟨r1, hin⟩, hjn⟩, hkn⟩, hij⟩, hik⟩, hjk⟩, sij⟩, sik⟩, sjk⟩, r2⟩, r3⟩, r4⟩, r5⟩, r6⟩, r7⟩, r8⟩ := hr
  have lt : ∀ {p : Nat} {W : World} {o : Obj}, W.heap[p]? = some o → p < W.heap.size := fun {p W o} h => by
    rcases Nat.lt_or_ge p W.heap.size with h' | h'
    · exact h'
    · rw [Array.getElem?_eq_none h'] at h; cases h
  have cij : (listed.setIfInBounds j true).setIfInBounds i true = (listed.setIfInBounds i true).setIfInBounds j true := Array.setIfInBounds_comm _ _ (Ne.symm hij)
  have cik : (listed.setIfInBounds k true).setIfInBounds i true = (listed.setIfInBounds i true).setIfInBounds k true := Array.setIfInBounds_comm _ _ (Ne.symm hik)
  have cjk : (listed.setIfInBounds k true).setIfInBounds j true = (listed.setIfInBounds j true).setIfInBounds k true := Array.setIfInBounds_comm _ _ (Ne.symm hjk)
  have c3 : ((listed.setIfInBounds i true).setIfInBounds k true).setIfInBounds j true = ((listed.setIfInBounds i true).setIfInBounds j true).setIfInBounds k true := Array.setIfInBounds_comm _ _ (Ne.symm hjk)
  have c4 : ((listed.setIfInBounds j true).setIfInBounds k true).setIfInBounds i true = ((listed.setIfInBounds i true).setIfInBounds j true).setIfInBounds k true := by
    rw [Array.setIfInBounds_comm _ _ (Ne.symm hik), cij]
  have two : ∀ {x y : Nat} {ox oy : Oper} (_ : ops[x]? = some ox) (_ : ops[y]? = some oy) (_ : ox.guard = none) (_ : oy.guard = none) (_ : ox.op = .alloc ti) (_ : oy.op = .alloc ti) (_ : x < n) (_ : y < n) {listed' : Array Bool} {a' : Act} {w1 : World},
      Below w0.heap.size w0 w1 → Region.ready md ops listed' = [x, y] → Region.ready md ops (listed'.setIfInBounds x true) = [y] → Region.ready md ops (listed'.setIfInBounds y true) = [x] →
      (Region.seqB md ops g n ((listed'.setIfInBounds x true).setIfInBounds y true) = true) → (Region.seqB md ops g n ((listed'.setIfInBounds y true).setIfInBounds x true) = true) →
      (∀ p q w', w1.heap.size ≤ p → w1.heap.size ≤ q → p ≠ q → w'.heap[p]? = some (.cells zi ti (0, 0)) → w'.heap[q]? = some (.cells zi ti (0, 0)) → Below w1.heap.size w1 w' → wpList P ops Q l ((a'.put ox.dst (.pointer (some ⟨p, 0, none⟩))).put oy.dst (.pointer (some ⟨q, 0, none⟩))) w' ∧ wpList P ops Q l ((a'.put oy.dst (.pointer (some ⟨q, 0, none⟩))).put ox.dst (.pointer (some ⟨p, 0, none⟩))) w') →
      wpGr P md ops Q n (GrL P md ops Q g n l) 2 listed' a' w1 := by
    intro x y ox oy hx hy hgx hgy hox hoy hxn hyn listed' a' w1 hb1 q1 q2 q3 q4 q5 H
    refine wpGr_ready q1 (by simp) (by simp [hxn, hyn]) fun m hm => ?_
    simp only [List.mem_cons, List.not_mem_nil, or_false] at hm
    rcases hm with rfl | rfl
    · refine wpGr_alloc hx hgx hox hz (Below.refl w1.heap.size w1) fun p w2 hp hpz hb2 => ?_
      refine wpGr_ready q2 (by simp) (by simp [hyn]) fun m hm => ?_
      simp only [List.mem_singleton] at hm
      subst hm
      refine wpGr_alloc hy hgy hoy hz (Below.refl w2.heap.size w2) fun q w3 hq hqz hb3 => ⟨q4, ?_⟩
      have := lt hpz
      have hs := hb2.size
      refine (H p q w3 hp (by omega) (by omega) ?_ hqz (hb2.trans (hb3.mono hs))).1
      rw [hb3.block _ this]; exact hpz
    · refine wpGr_alloc hy hgy hoy hz (Below.refl w1.heap.size w1) fun p w2 hp hpz hb2 => ?_
      refine wpGr_ready q3 (by simp) (by simp [hxn]) fun m hm => ?_
      simp only [List.mem_singleton] at hm
      subst hm
      refine wpGr_alloc hx hgx hox hz (Below.refl w2.heap.size w2) fun q w3 hq hqz hb3 => ⟨q5, ?_⟩
      have := lt hpz
      have hs := hb2.size
      refine (H q p w3 (by omega) hp (by omega) hqz ?_ (hb2.trans (hb3.mono hs))).2
      rw [hb3.block _ this]; exact hpz
  refine wpGr_ready r1 (by simp) (by simp [hin, hjn, hkn]) fun m hm => ?_
  simp only [List.mem_cons, List.not_mem_nil, or_false] at hm
  rcases hm with rfl | rfl | rfl
  · refine wpGr_alloc hi hgi hoi hz hw fun p w1 hp hpz hb => ?_
    have hpl := lt hpz
    have hs := hb.size
    refine two hj hk hgj hgk hoj hok hjn hkn hb r2 r5 r6 r8 (by rw [c3]; exact r8) fun q r w' hq hr' hne hqz hrz hb' => ?_
    have hp' : w'.heap[p]? = some (.cells zi ti (0, 0)) := by rw [hb'.block _ hpl]; exact hpz
    have H := h p q r w' hp (by omega) (by omega) (by omega) (by omega) hne hp' hqz hrz (hb.trans (hb'.mono hs))
    exact ⟨H, by rw [put_comm' _ hsk hsj (Ne.symm sjk)]; exact H⟩
  · refine wpGr_alloc hj hgj hoj hz hw fun q w1 hq hqz hb => ?_
    have hql := lt hqz
    have hs := hb.size
    refine two hi hk hgi hgk hoi hok hin hkn hb r3 (by rw [cij]; exact r5) r7 (by rw [cij]; exact r8) (by rw [c4]; exact r8) fun p r w' hp hr' hne hpz hrz hb' => ?_
    have hq' : w'.heap[q]? = some (.cells zi ti (0, 0)) := by rw [hb'.block _ hql]; exact hqz
    have H := h p q r w' (by omega) hq (by omega) (by omega) hne (by omega) hpz hq' hrz (hb.trans (hb'.mono hs))
    refine ⟨by rw [put_comm' _ hsj hsi (Ne.symm sij)]; exact H, ?_⟩
    rw [put_comm' _ hsk hsi (Ne.symm sik), put_comm' _ hsj hsi (Ne.symm sij)]
    exact H
  · refine wpGr_alloc hk hgk hok hz hw fun r w1 hr' hrz hb => ?_
    have hrl := lt hrz
    have hs := hb.size
    refine two hi hj hgi hgj hoi hoj hin hjn hb r4 (by rw [cik]; exact r6) (by rw [cjk]; exact r7) (by rw [cik, c3]; exact r8) (by rw [cjk, c4]; exact r8) fun p q w' hp hq hne hpz hqz hb' => ?_
    have hr2 : w'.heap[r]? = some (.cells zi ti (0, 0)) := by rw [hb'.block _ hrl]; exact hrz
    have H := h p q r w' (by omega) (by omega) hr' hne (by omega) (by omega) hpz hqz hr2 (hb.trans (hb'.mono hs))
    refine ⟨?_, ?_⟩
    · rw [put_comm' _ hsk hsi (Ne.symm sik), put_comm' _ hsk hsj (Ne.symm sjk)]
      exact H
    · rw [put_comm' _ hsk hsj (Ne.symm sjk), put_comm' _ hsk hsi (Ne.symm sik), put_comm' _ hsj hsi (Ne.symm sij)]
      exact H
end
section
variable {w w1 w2 : World} {L : List (Nat × Array Value × TypeId)} {M : List (Option Addr × Nat × List Value)}
theorem St.alloc2 (h : St w w1 L M) (hb : Below w1.heap.size w1 w2) {p q : Nat} (hp : w1.heap.size ≤ p) (hq : w1.heap.size ≤ q) (hne : p ≠ q) {z y : Array Value} {t u : TypeId} (hz : w2.heap[p]? = some (.cells z t (0, 0))) (hy : w2.heap[q]? = some (.cells y u (0, 0))) : St w w2 ((p, z, t) :: (q, y, u) :: L) M := by
  have h1 := h.alloc hb hq hy
  refine ⟨h1.below, ⟨hz, h1.cl⟩, ?_, fun r hr => ?_, h1.sq⟩
  · rw [List.map_cons, List.nodup_cons]
    refine ⟨fun hm => ?_, h1.nd⟩
    obtain ⟨r, hr, he⟩ := List.mem_map.1 hm
    rcases List.mem_cons.1 hr with rfl | hr
    · exact hne he.symm
    · exact h.cl.far hp r hr he
  · rcases List.mem_cons.1 hr with rfl | hr
    · exact Nat.le_trans h.below.size hp
    · exact h1.own r hr
theorem St.alloc3 (h : St w w1 L M) (hb : Below w1.heap.size w1 w2) {p q r : Nat} (hp : w1.heap.size ≤ p) (hq : w1.heap.size ≤ q) (hr : w1.heap.size ≤ r) (hpq : p ≠ q) (hpr : p ≠ r) (hqr : q ≠ r) {z y x : Array Value} {t u v : TypeId} (hz : w2.heap[p]? = some (.cells z t (0, 0))) (hy : w2.heap[q]? = some (.cells y u (0, 0))) (hx : w2.heap[r]? = some (.cells x v (0, 0))) : St w w2 ((p, z, t) :: (q, y, u) :: (r, x, v) :: L) M := by
  have h1 := h.alloc2 hb hq hr hqr hy hx
  refine ⟨h1.below, ⟨hz, h1.cl⟩, ?_, fun s hs => ?_, h1.sq⟩
  · rw [List.map_cons, List.nodup_cons]
    refine ⟨fun hm => ?_, h1.nd⟩
    obtain ⟨s, hs, he⟩ := List.mem_map.1 hm
    rcases List.mem_cons.1 hs with rfl | hs
    · exact hpq he.symm
    rcases List.mem_cons.1 hs with rfl | hs
    · exact hpr he.symm
    · exact h.cl.far hp s hs he
  · rcases List.mem_cons.1 hs with rfl | hs
    · exact Nat.le_trans h.below.size hp
    · exact h1.own s hs
end
end
end Go.Proofs.YtgehfbcagaaggaaGreatDoor
end
section
namespace Go.Proofs.YtgehfbcagaaggaaGreatDoor
open Go Go.RowKit
set_option linter.unusedVariables false
set_option linter.unusedSimpArgs false
theorem negE {a r : FF} (hr : r = -a) : Hid (∀ W : World, Calls Tryz.prog 85 #[.agg (eF a)] W fun e w' => e = .returned (.agg (eF r)) ∧ Below W.heap.size W w') := hid fun W => by
  have e : r.val = (pp - a.val) % pp := by rw [hr]; rfl
  unfold eF
  rw [e]
  exact Neg_e a.val W a.isLt
theorem oddE (a : FF) : Hid (∀ W : World, Calls Tryz.prog 82 #[.agg (eF a)] W fun e w' => e = .returned (.bool (decide (a.val % 2 = 1))) ∧ Below W.heap.size W w') := hid fun W => Odd_e a.val W a.isLt
theorem sameE {a b : FF} {t : Bool} (ht : t = decide (a = b)) : Hid (∀ W : World, Calls Tryz.prog 87 #[.agg (eF a), .agg (eF b)] W fun e w' => e = .returned (.bool t) ∧ Below W.heap.size W w') := hid fun W => by
  have h : t = decide (a.val = b.val) := by rw [ht]; exact decide_eq_decide.2 ⟨fun h => by rw [h], fun h => Fin.ext h⟩
  rw [h]
  exact Same_e a.val b.val W a.isLt b.isLt
/-- The number of bytes. -/
def ofF (xs : List UInt8) : FF := ⟨ofN xs, ofN_lt xs⟩
theorem ofE {xs : List UInt8} {r : FF} (hr : r = ofF xs) : Hid (∀ (A : Option Addr) (c : Nat) (W : World), Sq W W.heap.size A c (bvs xs) → Calls Tryz.prog 83 #[.slice A xs.length c] W fun e w' => e = .returned (.agg (eF r)) ∧ Below W.heap.size W w') := hid fun A c W h => by
  subst hr
  exact Of_e A xs c W h
def cP (x a : FF) : Array Value := eF x ++ eF a
def cR (x y z t : FF) : Array Value := eF x ++ eF y ++ eF z ++ eF t
def cA (l m p : FF) : Array Value := eF l ++ eF m ++ eF p
def cT (l m p l' m' p' : FF) : Array Value := eF l ++ eF m ++ eF p ++ eF l' ++ eF m' ++ eF p'
theorem eF_size (a : FF) : (eF a).size = 4 := rfl
theorem cP_size (x a : FF) : (cP x a).size = 8 := by unfold cP; simp [eF_size]
theorem cR_size (x y z t : FF) : (cR x y z t).size = 16 := by unfold cR; simp [eF_size]
theorem cA_size (l m p : FF) : (cA l m p).size = 12 := by unfold cA; simp [eF_size]
theorem cT_size (l m p l' m' p' : FF) : (cT l m p l' m' p').size = 24 := by unfold cT; simp [eF_size]
theorem eF_one (a : FF) : (eF a).all (·.oneCell') = true := oneEA _
theorem cP_one (x a : FF) : (cP x a).all (·.oneCell') = true := by unfold cP; simp only [Array.all_append, eF_one, Bool.and_self]
theorem cR_one (x y z t : FF) : (cR x y z t).all (·.oneCell') = true := by unfold cR; simp only [Array.all_append, eF_one, Bool.and_self]
theorem cA_one (l m p : FF) : (cA l m p).all (·.oneCell') = true := by unfold cA; simp only [Array.all_append, eF_one, Bool.and_self]
theorem cT_one (l m p l' m' p' : FF) : (cT l m p l' m' p').all (·.oneCell') = true := by unfold cT; simp only [Array.all_append, eF_one, Bool.and_self]
theorem eF_all (a : FF) : (eF a).extract 0 (0 + (eF a).size) = eF a := by simp
theorem cP_all (x a : FF) : (cP x a).extract 0 (0 + (cP x a).size) = cP x a := by simp
theorem cR_all (x y z t : FF) : (cR x y z t).extract 0 (0 + (cR x y z t).size) = cR x y z t := by simp
theorem cP_0 (x a : FF) : (cP x a).extract 0 (0 + (eF x).size) = eF x := by kernel_rfl
theorem cP_4 (x a : FF) : (cP x a).extract 4 (4 + (eF a).size) = eF a := by kernel_rfl
theorem cR_0 (x y z t : FF) : (cR x y z t).extract 0 (0 + (eF x).size) = eF x := by kernel_rfl
theorem cR_4 (x y z t : FF) : (cR x y z t).extract 4 (4 + (eF y).size) = eF y := by kernel_rfl
theorem cR_8 (x y z t : FF) : (cR x y z t).extract 8 (8 + (eF z).size) = eF z := by kernel_rfl
theorem cR_12 (x y z t : FF) : (cR x y z t).extract 12 (12 + (eF t).size) = eF t := by kernel_rfl
theorem cA_0 (l m p : FF) : (cA l m p).extract 0 (0 + (eF l).size) = eF l := by kernel_rfl
theorem cA_4 (l m p : FF) : (cA l m p).extract 4 (4 + (eF m).size) = eF m := by kernel_rfl
theorem cA_8 (l m p : FF) : (cA l m p).extract 8 (8 + (eF p).size) = eF p := by kernel_rfl
theorem cT_0 (l m p l' m' p' : FF) : (cT l m p l' m' p').extract 0 (0 + (cA l m p).size) = cA l m p := by kernel_rfl
theorem cT_12 (l m p l' m' p' : FF) : (cT l m p l' m' p').extract 12 (12 + (cA l' m' p').size) = cA l' m' p' := by kernel_rfl
abbrev PT : TypeId := 82
abbrev RT : TypeId := 107
abbrev AT : TypeId := 116
abbrev TT : TypeId := 134
theorem infoF (a : FF) : (Tryz.prog.info? ET).map (·.size) = some (eF a).size := infoEA _
theorem infoPc (x a : FF) : (Tryz.prog.info? PT).map (·.size) = some (cP x a).size := by rw [cP_size]; kernel_rfl
theorem infoR (x y z t : FF) : (Tryz.prog.info? RT).map (·.size) = some (cR x y z t).size := by rw [cR_size]; kernel_rfl
theorem infoA (l m p : FF) : (Tryz.prog.info? AT).map (·.size) = some (cA l m p).size := by rw [cA_size]; kernel_rfl
theorem infoT (l m p l' m' p' : FF) : (Tryz.prog.info? TT).map (·.size) = some (cT l m p l' m' p').size := by rw [cT_size]; kernel_rfl
theorem zeroF : (Tryz.prog.info? ET).map (fun i => (i.zero, i.size)) = some (some (.agg (eF 0)), 4) := by kernel_rfl
theorem zeroPc : (Tryz.prog.info? PT).map (fun i => (i.zero, i.size)) = some (some (.agg (cP 0 0)), 8) := by kernel_rfl
theorem zeroRc : (Tryz.prog.info? RT).map (fun i => (i.zero, i.size)) = some (some (.agg (cR 0 0 0 0)), 16) := by kernel_rfl
theorem zeroAc : (Tryz.prog.info? AT).map (fun i => (i.zero, i.size)) = some (some (.agg (cA 0 0 0)), 12) := by kernel_rfl
theorem zeroTc : (Tryz.prog.info? TT).map (fun i => (i.zero, i.size)) = some (some (.agg (cT 0 0 0 0 0 0)), 24) := by kernel_rfl
theorem builtP0 : Tryz.prog.built PT [] = some (cP 0 0) := by kernel_rfl
theorem builtPc (x a : FF) : Tryz.prog.built PT [(0, .agg (eF x)), (1, .agg (eF a))] = some (cP x a) := by kernel_rfl
theorem builtRc (x y z t : FF) : Tryz.prog.built RT [(0, .agg (eF x)), (1, .agg (eF y)), (2, .agg (eF z)), (3, .agg (eF t))] = some (cR x y z t) := by kernel_rfl
theorem builtAc (l m p : FF) : Tryz.prog.built AT [(0, .agg (eF l)), (1, .agg (eF m)), (2, .agg (eF p))] = some (cA l m p) := by kernel_rfl
theorem builtTc (l m p l' m' p' : FF) : Tryz.prog.built TT [(0, .agg (cA l m p)), (1, .agg (cA l' m' p'))] = some (cT l m p l' m' p') := by kernel_rfl
end Go.Proofs.YtgehfbcagaaggaaGreatDoor
end
section
namespace Go.Proofs.YtgehfbcagaaggaaGreatDoor
open Go Go.RowKit
set_option linter.unusedVariables false
set_option linter.unusedSimpArgs false
def dnB : List UInt8 := [163, 120, 89, 19, 202, 77, 235, 117, 171, 216, 65, 65, 77, 10, 112, 0, 152, 232, 121, 119, 121, 64, 199, 140, 115, 254, 111, 43, 238, 108, 3, 82]
theorem dn_built : Tryz.prog.builtSlice 5 32 [(0, .int .u8 163), (1, .int .u8 120), (2, .int .u8 89), (3, .int .u8 19), (4, .int .u8 202), (5, .int .u8 77), (6, .int .u8 235), (7, .int .u8 117), (8, .int .u8 171), (9, .int .u8 216), (10, .int .u8 65), (11, .int .u8 65), (12, .int .u8 77), (13, .int .u8 10), (14, .int .u8 112), (15, .int .u8 0), (16, .int .u8 152), (17, .int .u8 232), (18, .int .u8 121), (19, .int .u8 119), (20, .int .u8 121), (21, .int .u8 64), (22, .int .u8 199), (23, .int .u8 140), (24, .int .u8 115), (25, .int .u8 254), (26, .int .u8 111), (27, .int .u8 43), (28, .int .u8 238), (29, .int .u8 108), (30, .int .u8 3), (31, .int .u8 82)] = some (bvs dnB).toArray := by kernel_rfl
theorem dn_of : Hid (∀ (A : Option Addr) (c : Nat) (W : World), Sq W W.heap.size A c (bvs dnB) → Calls Tryz.prog 83 #[.slice A 32 c] W fun e w' => e = .returned (.agg (eF dd)) ∧ Below W.heap.size W w') := ofE (xs := dnB) (r := dd) (by decide +kernel)
set_option maxHeartbeats 1000000 in
theorem factorC' (w : World) : Calls Tryz.prog 112 #[] w fun e w' => e = .returned (.agg (eF dd)) ∧ Below w.heap.size w w' := by
  have K0 := dn_of
  have HE : eF dd = eF dd := by
    rfl
  rw [HE]
  clear HE  
  go_enter Tryz.func112, Tryz.ntmps112
  have S0 : Hid (St w w [] []) := hid (St.start w)
  go_upto_region 0 with fail
  refine wpLA_start ?_
  refine wpLA_alloc (by rfl) rfl zeroF ?_
  intro p1 w1 hp hz hb
  have S1 : Hid (St w w1 [(p1, eF 0, ET)] []) := hid (S0.out.alloc hb hp hz)
  clear hp hz hb S0
  (try simp only [Act.put, List.getElem_toArray, List.getElem_cons_succ, List.getElem_cons_zero, List.setIfInBounds_toArray, List.set_cons_zero, List.set_cons_succ])
  refine wpLA_end ?_
  intro w2 hb
  have S2 := hid (S1.out.on hb)
  clear hb S1
  go_upto_region 1 with fail
  refine wpLA_start ?_
  refine wpLA_slice rfl _ _ 32 _ rfl Tryz.underlying22 [(0, (.int .u8 163)), (1, (.int .u8 120)), (2, (.int .u8 89)), (3, (.int .u8 19)), (4, (.int .u8 202)), (5, (.int .u8 77)), (6, (.int .u8 235)), (7, (.int .u8 117)), (8, (.int .u8 171)), (9, (.int .u8 216)), (10, (.int .u8 65)), (11, (.int .u8 65)), (12, (.int .u8 77)), (13, (.int .u8 10)), (14, (.int .u8 112)), (15, (.int .u8 0)), (16, (.int .u8 152)), (17, (.int .u8 232)), (18, (.int .u8 121)), (19, (.int .u8 119)), (20, (.int .u8 121)), (21, (.int .u8 64)), (22, (.int .u8 199)), (23, (.int .u8 140)), (24, (.int .u8 115)), (25, (.int .u8 254)), (26, (.int .u8 111)), (27, (.int .u8 43)), (28, (.int .u8 238)), (29, (.int .u8 108)), (30, (.int .u8 3)), (31, (.int .u8 82))] rfl (bvs dnB) dn_built (by decide) (by decide) ?_
  intro p3 w3 hb hs
  have S3 : Hid (St w w3 [(p1, eF 0, ET)] [((some ⟨p3, 0, none⟩), 32, bvs dnB)]) := hid ((S2.out.on hb).more hs)
  clear hb hs S2
  (try simp only [Act.put, List.getElem_toArray, List.getElem_cons_succ, List.getElem_cons_zero, List.setIfInBounds_toArray, List.set_cons_zero, List.set_cons_succ])
  refine wpLA_take (.agg (eF dd)) (yG_call (by rfl) (fun w' => by go_simp) (fun w' hb => K0.out _ _ w' (S3.out.on hb).sq.1)) ?_
  (try simp only [Act.put, List.getElem_toArray, List.getElem_cons_succ, List.getElem_cons_zero, List.setIfInBounds_toArray, List.set_cons_zero, List.set_cons_succ])
  have S0l := hid S3.out.less
  clear S3
  refine wpLA_store rfl ET (.tmp 0) (.tmp 2) rfl p1 (eF dd) rfl rfl ET (eF 0) S0l.out.cl.1 (infoF dd) ((eF_size 0).trans (eF_size dd).symm) (eF_one dd) ?_
  intro wx hb
  have S4 : Hid (St w (wx.setRow p1 (eF dd)) [(p1, eF dd, ET)] []) := hid ((S0l.out.on hb).put0 0 rfl)
  clear hb S0l
  generalize wx.setRow p1 (eF dd) = w4 at S4 ⊢
  (try simp only [Act.put, List.getElem_toArray, List.getElem_cons_succ, List.getElem_cons_zero, List.setIfInBounds_toArray, List.set_cons_zero, List.set_cons_succ])
  refine wpLA_end ?_
  intro w5 hb
  have S5 := hid (S4.out.on hb)
  clear hb S4
  go_wp2_with fail
  exact bodyPost_ret (v := .agg (eF dd)) (results_cell_row rfl _ _ p1 ET _ (0, 0) _ rfl S5.out.cl.1 Tryz.underlying80 rfl (infoF dd)) rfl ⟨rfl, S5.out.below⟩
theorem factorC : Hid (∀ W : World, Calls Tryz.prog 112 #[] W fun e w' => e = .returned (.agg (eF dd)) ∧ Below W.heap.size W w') := hid fun W => factorC' W
def bxB : List UInt8 := [26, 213, 37, 143, 96, 45, 86, 201, 178, 167, 37, 149, 96, 199, 44, 105, 92, 220, 214, 253, 49, 226, 164, 192, 254, 83, 110, 205, 211, 54, 105, 33]
theorem bx_built : Tryz.prog.builtSlice 5 32 [(0, .int .u8 26), (1, .int .u8 213), (2, .int .u8 37), (3, .int .u8 143), (4, .int .u8 96), (5, .int .u8 45), (6, .int .u8 86), (7, .int .u8 201), (8, .int .u8 178), (9, .int .u8 167), (10, .int .u8 37), (11, .int .u8 149), (12, .int .u8 96), (13, .int .u8 199), (14, .int .u8 44), (15, .int .u8 105), (16, .int .u8 92), (17, .int .u8 220), (18, .int .u8 214), (19, .int .u8 253), (20, .int .u8 49), (21, .int .u8 226), (22, .int .u8 164), (23, .int .u8 192), (24, .int .u8 254), (25, .int .u8 83), (26, .int .u8 110), (27, .int .u8 205), (28, .int .u8 211), (29, .int .u8 54), (30, .int .u8 105), (31, .int .u8 33)] = some (bvs bxB).toArray := by kernel_rfl
theorem bx_of : Hid (∀ (A : Option Addr) (c : Nat) (W : World), Sq W W.heap.size A c (bvs bxB) → Calls Tryz.prog 83 #[.slice A 32 c] W fun e w' => e = .returned (.agg (eF Gb.x)) ∧ Below W.heap.size W w') := ofE (xs := bxB) (r := Gb.x) (by decide +kernel)
set_option maxHeartbeats 1000000 in
theorem baseXC' (w : World) : Calls Tryz.prog 76 #[] w fun e w' => e = .returned (.agg (eF Gb.x)) ∧ Below w.heap.size w w' := by
  have K0 := bx_of
  have HE : eF Gb.x = eF Gb.x := by
    rfl
  rw [HE]
  clear HE  
  go_enter Tryz.func76, Tryz.ntmps76
  have S0 : Hid (St w w [] []) := hid (St.start w)
  go_upto_region 0 with fail
  refine wpLA_start ?_
  refine wpLA_alloc (by rfl) rfl zeroF ?_
  intro p1 w1 hp hz hb
  have S1 : Hid (St w w1 [(p1, eF 0, ET)] []) := hid (S0.out.alloc hb hp hz)
  clear hp hz hb S0
  (try simp only [Act.put, List.getElem_toArray, List.getElem_cons_succ, List.getElem_cons_zero, List.setIfInBounds_toArray, List.set_cons_zero, List.set_cons_succ])
  refine wpLA_end ?_
  intro w2 hb
  have S2 := hid (S1.out.on hb)
  clear hb S1
  go_upto_region 1 with fail
  refine wpLA_start ?_
  refine wpLA_slice rfl _ _ 32 _ rfl Tryz.underlying22 [(0, (.int .u8 26)), (1, (.int .u8 213)), (2, (.int .u8 37)), (3, (.int .u8 143)), (4, (.int .u8 96)), (5, (.int .u8 45)), (6, (.int .u8 86)), (7, (.int .u8 201)), (8, (.int .u8 178)), (9, (.int .u8 167)), (10, (.int .u8 37)), (11, (.int .u8 149)), (12, (.int .u8 96)), (13, (.int .u8 199)), (14, (.int .u8 44)), (15, (.int .u8 105)), (16, (.int .u8 92)), (17, (.int .u8 220)), (18, (.int .u8 214)), (19, (.int .u8 253)), (20, (.int .u8 49)), (21, (.int .u8 226)), (22, (.int .u8 164)), (23, (.int .u8 192)), (24, (.int .u8 254)), (25, (.int .u8 83)), (26, (.int .u8 110)), (27, (.int .u8 205)), (28, (.int .u8 211)), (29, (.int .u8 54)), (30, (.int .u8 105)), (31, (.int .u8 33))] rfl (bvs bxB) bx_built (by decide) (by decide) ?_
  intro p3 w3 hb hs
  have S3 : Hid (St w w3 [(p1, eF 0, ET)] [((some ⟨p3, 0, none⟩), 32, bvs bxB)]) := hid ((S2.out.on hb).more hs)
  clear hb hs S2
  (try simp only [Act.put, List.getElem_toArray, List.getElem_cons_succ, List.getElem_cons_zero, List.setIfInBounds_toArray, List.set_cons_zero, List.set_cons_succ])
  refine wpLA_take (.agg (eF Gb.x)) (yG_call (by rfl) (fun w' => by go_simp) (fun w' hb => K0.out _ _ w' (S3.out.on hb).sq.1)) ?_
  (try simp only [Act.put, List.getElem_toArray, List.getElem_cons_succ, List.getElem_cons_zero, List.setIfInBounds_toArray, List.set_cons_zero, List.set_cons_succ])
  have S0l := hid S3.out.less
  clear S3
  refine wpLA_store rfl ET (.tmp 0) (.tmp 2) rfl p1 (eF Gb.x) rfl rfl ET (eF 0) S0l.out.cl.1 (infoF Gb.x) ((eF_size 0).trans (eF_size Gb.x).symm) (eF_one Gb.x) ?_
  intro wx hb
  have S4 : Hid (St w (wx.setRow p1 (eF Gb.x)) [(p1, eF Gb.x, ET)] []) := hid ((S0l.out.on hb).put0 0 rfl)
  clear hb S0l
  generalize wx.setRow p1 (eF Gb.x) = w4 at S4 ⊢
  (try simp only [Act.put, List.getElem_toArray, List.getElem_cons_succ, List.getElem_cons_zero, List.setIfInBounds_toArray, List.set_cons_zero, List.set_cons_succ])
  refine wpLA_end ?_
  intro w5 hb
  have S5 := hid (S4.out.on hb)
  clear hb S4
  go_wp2_with fail
  exact bodyPost_ret (v := .agg (eF Gb.x)) (results_cell_row rfl _ _ p1 ET _ (0, 0) _ rfl S5.out.cl.1 Tryz.underlying80 rfl (infoF Gb.x)) rfl ⟨rfl, S5.out.below⟩
theorem baseXC : Hid (∀ W : World, Calls Tryz.prog 76 #[] W fun e w' => e = .returned (.agg (eF Gb.x)) ∧ Below W.heap.size W w') := hid fun W => baseXC' W
def by_B : List UInt8 := [88, 102, 102, 102, 102, 102, 102, 102, 102, 102, 102, 102, 102, 102, 102, 102, 102, 102, 102, 102, 102, 102, 102, 102, 102, 102, 102, 102, 102, 102, 102, 102]
theorem by__built : Tryz.prog.builtSlice 5 32 [(0, .int .u8 88), (1, .int .u8 102), (2, .int .u8 102), (3, .int .u8 102), (4, .int .u8 102), (5, .int .u8 102), (6, .int .u8 102), (7, .int .u8 102), (8, .int .u8 102), (9, .int .u8 102), (10, .int .u8 102), (11, .int .u8 102), (12, .int .u8 102), (13, .int .u8 102), (14, .int .u8 102), (15, .int .u8 102), (16, .int .u8 102), (17, .int .u8 102), (18, .int .u8 102), (19, .int .u8 102), (20, .int .u8 102), (21, .int .u8 102), (22, .int .u8 102), (23, .int .u8 102), (24, .int .u8 102), (25, .int .u8 102), (26, .int .u8 102), (27, .int .u8 102), (28, .int .u8 102), (29, .int .u8 102), (30, .int .u8 102), (31, .int .u8 102)] = some (bvs by_B).toArray := by kernel_rfl
theorem by__of : Hid (∀ (A : Option Addr) (c : Nat) (W : World), Sq W W.heap.size A c (bvs by_B) → Calls Tryz.prog 83 #[.slice A 32 c] W fun e w' => e = .returned (.agg (eF Gb.y)) ∧ Below W.heap.size W w') := ofE (xs := by_B) (r := Gb.y) (by decide +kernel)
set_option maxHeartbeats 1000000 in
theorem baseYC' (w : World) : Calls Tryz.prog 77 #[] w fun e w' => e = .returned (.agg (eF Gb.y)) ∧ Below w.heap.size w w' := by
  have K0 := by__of
  have HE : eF Gb.y = eF Gb.y := by
    rfl
  rw [HE]
  clear HE  
  go_enter Tryz.func77, Tryz.ntmps77
  have S0 : Hid (St w w [] []) := hid (St.start w)
  go_upto_region 0 with fail
  refine wpLA_start ?_
  refine wpLA_alloc (by rfl) rfl zeroF ?_
  intro p1 w1 hp hz hb
  have S1 : Hid (St w w1 [(p1, eF 0, ET)] []) := hid (S0.out.alloc hb hp hz)
  clear hp hz hb S0
  (try simp only [Act.put, List.getElem_toArray, List.getElem_cons_succ, List.getElem_cons_zero, List.setIfInBounds_toArray, List.set_cons_zero, List.set_cons_succ])
  refine wpLA_end ?_
  intro w2 hb
  have S2 := hid (S1.out.on hb)
  clear hb S1
  go_upto_region 1 with fail
  refine wpLA_start ?_
  refine wpLA_slice rfl _ _ 32 _ rfl Tryz.underlying22 [(0, (.int .u8 88)), (1, (.int .u8 102)), (2, (.int .u8 102)), (3, (.int .u8 102)), (4, (.int .u8 102)), (5, (.int .u8 102)), (6, (.int .u8 102)), (7, (.int .u8 102)), (8, (.int .u8 102)), (9, (.int .u8 102)), (10, (.int .u8 102)), (11, (.int .u8 102)), (12, (.int .u8 102)), (13, (.int .u8 102)), (14, (.int .u8 102)), (15, (.int .u8 102)), (16, (.int .u8 102)), (17, (.int .u8 102)), (18, (.int .u8 102)), (19, (.int .u8 102)), (20, (.int .u8 102)), (21, (.int .u8 102)), (22, (.int .u8 102)), (23, (.int .u8 102)), (24, (.int .u8 102)), (25, (.int .u8 102)), (26, (.int .u8 102)), (27, (.int .u8 102)), (28, (.int .u8 102)), (29, (.int .u8 102)), (30, (.int .u8 102)), (31, (.int .u8 102))] rfl (bvs by_B) by__built (by decide) (by decide) ?_
  intro p3 w3 hb hs
  have S3 : Hid (St w w3 [(p1, eF 0, ET)] [((some ⟨p3, 0, none⟩), 32, bvs by_B)]) := hid ((S2.out.on hb).more hs)
  clear hb hs S2
  (try simp only [Act.put, List.getElem_toArray, List.getElem_cons_succ, List.getElem_cons_zero, List.setIfInBounds_toArray, List.set_cons_zero, List.set_cons_succ])
  refine wpLA_take (.agg (eF Gb.y)) (yG_call (by rfl) (fun w' => by go_simp) (fun w' hb => K0.out _ _ w' (S3.out.on hb).sq.1)) ?_
  (try simp only [Act.put, List.getElem_toArray, List.getElem_cons_succ, List.getElem_cons_zero, List.setIfInBounds_toArray, List.set_cons_zero, List.set_cons_succ])
  have S0l := hid S3.out.less
  clear S3
  refine wpLA_store rfl ET (.tmp 0) (.tmp 2) rfl p1 (eF Gb.y) rfl rfl ET (eF 0) S0l.out.cl.1 (infoF Gb.y) ((eF_size 0).trans (eF_size Gb.y).symm) (eF_one Gb.y) ?_
  intro wx hb
  have S4 : Hid (St w (wx.setRow p1 (eF Gb.y)) [(p1, eF Gb.y, ET)] []) := hid ((S0l.out.on hb).put0 0 rfl)
  clear hb S0l
  generalize wx.setRow p1 (eF Gb.y) = w4 at S4 ⊢
  (try simp only [Act.put, List.getElem_toArray, List.getElem_cons_succ, List.getElem_cons_zero, List.setIfInBounds_toArray, List.set_cons_zero, List.set_cons_succ])
  refine wpLA_end ?_
  intro w5 hb
  have S5 := hid (S4.out.on hb)
  clear hb S4
  go_wp2_with fail
  exact bodyPost_ret (v := .agg (eF Gb.y)) (results_cell_row rfl _ _ p1 ET _ (0, 0) _ rfl S5.out.cl.1 Tryz.underlying80 rfl (infoF Gb.y)) rfl ⟨rfl, S5.out.below⟩
theorem baseYC : Hid (∀ W : World, Calls Tryz.prog 77 #[] W fun e w' => e = .returned (.agg (eF Gb.y)) ∧ Below W.heap.size W w') := hid fun W => baseYC' W
set_option maxHeartbeats 1000000 in
theorem yC' {x a r : FF} (hr : r = a + 1) (w : World) : Calls Tryz.prog 80 #[.agg (cP x a)] w fun e w' => e = .returned (.agg (eF r)) ∧ Below w.heap.size w w' := by
  have K0 : Hid (∀ W : World, Calls Tryz.prog 103 #[.int .u64 1] W fun e w' => e = .returned (.agg (eF 1)) ∧ Below W.heap.size W w') := numE 1 (by omega) rfl
  obtain ⟨r1, hr1⟩ : ∃ v, v = a + 1 := ⟨_, rfl⟩
  have K1 := addE hr1
  have HE : eF r = eF r1 := by
    subst hr
    subst hr1
    rfl
  rw [HE]
  clear HE hr hr1
  go_enter Tryz.func80, Tryz.ntmps80
  have S0 : Hid (St w w [] []) := hid (St.start w)
  go_upto_region 0 with fail
  refine wpLA_start ?_
  refine wpLA_box (cP x a) (by rfl) rfl rfl ?_
  intro p1 w1 hp hz hb
  have S1 : Hid (St w w1 [(p1, cP x a, PT)] []) := hid (S0.out.alloc hb hp hz)
  clear hp hz hb S0
  (try simp only [Act.put, List.getElem_toArray, List.getElem_cons_succ, List.getElem_cons_zero, List.setIfInBounds_toArray, List.set_cons_zero, List.set_cons_succ])
  refine wpLA_alloc (by rfl) rfl zeroF ?_
  intro p2 w2 hp hz hb
  have S2 : Hid (St w w2 [(p2, eF 0, ET), (p1, cP x a, PT)] []) := hid (S1.out.alloc hb hp hz)
  clear hp hz hb S1
  (try simp only [Act.put, List.getElem_toArray, List.getElem_cons_succ, List.getElem_cons_zero, List.setIfInBounds_toArray, List.set_cons_zero, List.set_cons_succ])
  refine wpLA_end ?_
  intro w3 hb
  have S3 := hid (S2.out.on hb)
  clear hb S2
  go_upto_region 1 with fail
  refine wp_region_grA 4 (by kernel_rfl) (by decide) ?_
  refine wpGrA_take (i := 0) (.pointer (some ⟨p1, 4, none⟩)) rfl (by kernel_rfl) (by kernel_rfl) (fun _ _ _ h => h) (yG_val _ (by rfl) (fun w' _ => by (go_simp; try rfl))) ?_
  (try simp only [Act.put, List.getElem_toArray, List.getElem_cons_succ, List.getElem_cons_zero, List.setIfInBounds_toArray, List.set_cons_zero, List.set_cons_succ])
  refine wpGrA_take (i := 1) (.agg (eF a)) rfl (by kernel_rfl) (by kernel_rfl) (fun _ _ _ h => h) (yG_part (by rfl) ET (.tmp 3) rfl p1 4 rfl PT (cP x a) (eF a) (0, 0) _ S3.out.cl.2.1 (cP_4 x a) Tryz.underlying80 rfl (infoF a)) ?_
  (try simp only [Act.put, List.getElem_toArray, List.getElem_cons_succ, List.getElem_cons_zero, List.setIfInBounds_toArray, List.set_cons_zero, List.set_cons_succ])
  refine wpGrA_take (i := 2) (.agg (eF 1)) rfl (by kernel_rfl) (by kernel_rfl) (fun _ _ _ h => h) (yG_call (by rfl) (fun w' => by go_simp) (fun w' hb => K0.out w')) ?_
  (try simp only [Act.put, List.getElem_toArray, List.getElem_cons_succ, List.getElem_cons_zero, List.setIfInBounds_toArray, List.set_cons_zero, List.set_cons_succ])
  refine wpGrA_take (i := 3) (.agg (eF r1)) rfl (by kernel_rfl) (by kernel_rfl) (fun _ _ _ h => h) (yG_call (by rfl) (fun w' => by go_simp) (fun w' hb => K1.out w')) ?_
  (try simp only [Act.put, List.getElem_toArray, List.getElem_cons_succ, List.getElem_cons_zero, List.setIfInBounds_toArray, List.set_cons_zero, List.set_cons_succ])
  refine wpGrA_end (by kernel_rfl) ?_
  intro w4 hb
  have S4 := hid (S3.out.on hb)
  clear hb S3
  refine wpLA_here ?_
  refine wpLA_store rfl ET (.tmp 2) (.tmp 6) rfl p2 (eF r1) rfl rfl ET (eF 0) S4.out.cl.1 (infoF r1) ((eF_size 0).trans (eF_size r1).symm) (eF_one r1) ?_
  intro wx hb
  have S5 : Hid (St w (wx.setRow p2 (eF r1)) [(p2, eF r1, ET), (p1, cP x a, PT)] []) := hid ((S4.out.on hb).put0 0 rfl)
  clear hb S4
  generalize wx.setRow p2 (eF r1) = w5 at S5 ⊢
  (try simp only [Act.put, List.getElem_toArray, List.getElem_cons_succ, List.getElem_cons_zero, List.setIfInBounds_toArray, List.set_cons_zero, List.set_cons_succ])
  refine wpLA_end ?_
  intro w6 hb
  have S6 := hid (S5.out.on hb)
  clear hb S5
  go_wp2_with fail
  exact bodyPost_ret (v := .agg (eF r1)) (results_cell_row rfl _ _ p2 ET _ (0, 0) _ rfl S6.out.cl.1 Tryz.underlying80 rfl (infoF r1)) rfl ⟨rfl, S6.out.below⟩
theorem yC {x a r : FF} (hr : r = a + 1) : Hid (∀ W : World, Calls Tryz.prog 80 #[.agg (cP x a)] W fun e w' => e = .returned (.agg (eF r)) ∧ Below W.heap.size W w') := hid fun W => yC' hr W
set_option maxHeartbeats 1000000 in
theorem atC' {x y r : FF} (hr : r = y - 1) (w : World) : Calls Tryz.prog 75 #[.agg (eF x), .agg (eF y)] w fun e w' => e = .returned (.agg (cP x r)) ∧ Below w.heap.size w w' := by
  have K0 : Hid (∀ W : World, Calls Tryz.prog 103 #[.int .u64 1] W fun e w' => e = .returned (.agg (eF 1)) ∧ Below W.heap.size W w') := numE 1 (by omega) rfl
  obtain ⟨r1, hr1⟩ : ∃ v, v = y - 1 := ⟨_, rfl⟩
  have K1 := subE hr1
  have HE : cP x r = cP x r1 := by
    subst hr
    subst hr1
    rfl
  rw [HE]
  clear HE hr hr1
  go_enter Tryz.func75, Tryz.ntmps75
  have S0 : Hid (St w w [] []) := hid (St.start w)
  go_upto_region 0 with fail
  refine wpLA_start ?_
  refine wpLA_box (eF x) (by rfl) rfl rfl ?_
  intro p1 w1 hp hz hb
  have S1 : Hid (St w w1 [(p1, eF x, ET)] []) := hid (S0.out.alloc hb hp hz)
  clear hp hz hb S0
  (try simp only [Act.put, List.getElem_toArray, List.getElem_cons_succ, List.getElem_cons_zero, List.setIfInBounds_toArray, List.set_cons_zero, List.set_cons_succ])
  refine wpLA_box (eF y) (by rfl) rfl rfl ?_
  intro p2 w2 hp hz hb
  have S2 : Hid (St w w2 [(p2, eF y, ET), (p1, eF x, ET)] []) := hid (S1.out.alloc hb hp hz)
  clear hp hz hb S1
  (try simp only [Act.put, List.getElem_toArray, List.getElem_cons_succ, List.getElem_cons_zero, List.setIfInBounds_toArray, List.set_cons_zero, List.set_cons_succ])
  refine wpLA_alloc (by rfl) rfl zeroPc ?_
  intro p3 w3 hp hz hb
  have S3 : Hid (St w w3 [(p3, cP 0 0, PT), (p2, eF y, ET), (p1, eF x, ET)] []) := hid (S2.out.alloc hb hp hz)
  clear hp hz hb S2
  (try simp only [Act.put, List.getElem_toArray, List.getElem_cons_succ, List.getElem_cons_zero, List.setIfInBounds_toArray, List.set_cons_zero, List.set_cons_succ])
  refine wpLA_end ?_
  intro w4 hb
  have S4 := hid (S3.out.on hb)
  clear hb S3
  go_upto_region 1 with fail
  refine wp_region_grA 5 (by kernel_rfl) (by decide) ?_
  refine wpGrA_take (i := 0) (.agg (eF x)) rfl (by kernel_rfl) (by kernel_rfl) (fun _ _ _ h => h) (yG_part (by rfl) ET (.tmp 2) rfl p1 0 rfl ET (eF x) (eF x) (0, 0) _ S4.out.cl.2.2.1 (eF_all x) Tryz.underlying80 rfl (infoF x)) ?_
  (try simp only [Act.put, List.getElem_toArray, List.getElem_cons_succ, List.getElem_cons_zero, List.setIfInBounds_toArray, List.set_cons_zero, List.set_cons_succ])
  refine wpGrA_take (i := 1) (.agg (eF y)) rfl (by kernel_rfl) (by kernel_rfl) (fun _ _ _ h => h) (yG_part (by rfl) ET (.tmp 3) rfl p2 0 rfl ET (eF y) (eF y) (0, 0) _ S4.out.cl.2.1 (eF_all y) Tryz.underlying80 rfl (infoF y)) ?_
  (try simp only [Act.put, List.getElem_toArray, List.getElem_cons_succ, List.getElem_cons_zero, List.setIfInBounds_toArray, List.set_cons_zero, List.set_cons_succ])
  refine wpGrA_take (i := 2) (.agg (eF 1)) rfl (by kernel_rfl) (by kernel_rfl) (fun _ _ _ h => h) (yG_call (by rfl) (fun w' => by go_simp) (fun w' hb => K0.out w')) ?_
  (try simp only [Act.put, List.getElem_toArray, List.getElem_cons_succ, List.getElem_cons_zero, List.setIfInBounds_toArray, List.set_cons_zero, List.set_cons_succ])
  refine wpGrA_take (i := 3) (.agg (eF r1)) rfl (by kernel_rfl) (by kernel_rfl) (fun _ _ _ h => h) (yG_call (by rfl) (fun w' => by go_simp) (fun w' hb => K1.out w')) ?_
  (try simp only [Act.put, List.getElem_toArray, List.getElem_cons_succ, List.getElem_cons_zero, List.setIfInBounds_toArray, List.set_cons_zero, List.set_cons_succ])
  refine wpGrA_take (i := 4) (.agg (cP x r1)) rfl (by kernel_rfl) (by kernel_rfl) (fun _ _ _ h => h) (yG_build (by rfl) PT _ rfl [(0, (.agg (eF x))), (1, (.agg (eF r1)))] rfl _ (builtPc x r1)) ?_
  (try simp only [Act.put, List.getElem_toArray, List.getElem_cons_succ, List.getElem_cons_zero, List.setIfInBounds_toArray, List.set_cons_zero, List.set_cons_succ])
  refine wpGrA_end (by kernel_rfl) ?_
  intro w5 hb
  have S5 := hid (S4.out.on hb)
  clear hb S4
  refine wpLA_here ?_
  refine wpLA_store rfl PT (.tmp 4) (.tmp 9) rfl p3 (cP x r1) rfl rfl PT (cP 0 0) S5.out.cl.1 (infoPc x r1) ((cP_size 0 0).trans (cP_size x r1).symm) (cP_one x r1) ?_
  intro wx hb
  have S6 : Hid (St w (wx.setRow p3 (cP x r1)) [(p3, cP x r1, PT), (p2, eF y, ET), (p1, eF x, ET)] []) := hid ((S5.out.on hb).put0 0 rfl)
  clear hb S5
  generalize wx.setRow p3 (cP x r1) = w6 at S6 ⊢
  (try simp only [Act.put, List.getElem_toArray, List.getElem_cons_succ, List.getElem_cons_zero, List.setIfInBounds_toArray, List.set_cons_zero, List.set_cons_succ])
  refine wpLA_end ?_
  intro w7 hb
  have S7 := hid (S6.out.on hb)
  clear hb S6
  go_wp2_with fail
  exact bodyPost_ret (v := .agg (cP x r1)) (results_cell_row rfl _ _ p3 PT _ (0, 0) _ rfl S7.out.cl.1 Tryz.underlying82 rfl (infoPc x r1)) rfl ⟨rfl, S7.out.below⟩
theorem atC {x y r : FF} (hr : r = y - 1) : Hid (∀ W : World, Calls Tryz.prog 75 #[.agg (eF x), .agg (eF y)] W fun e w' => e = .returned (.agg (cP x r)) ∧ Below W.heap.size W w') := hid fun W => atC' hr W
set_option maxHeartbeats 1000000 in
theorem nothingC' (w : World) : Calls Tryz.prog 104 #[] w fun e w' => e = .returned (.agg (cP 0 0)) ∧ Below w.heap.size w w' := by
  have HE : cP 0 0 = cP 0 0 := by
    rfl
  rw [HE]
  clear HE  
  go_enter Tryz.func104, Tryz.ntmps104
  have S0 : Hid (St w w [] []) := hid (St.start w)
  go_upto_region 0 with fail
  refine wpLA_start ?_
  refine wpLA_alloc (by rfl) rfl zeroPc ?_
  intro p1 w1 hp hz hb
  have S1 : Hid (St w w1 [(p1, cP 0 0, PT)] []) := hid (S0.out.alloc hb hp hz)
  clear hp hz hb S0
  (try simp only [Act.put, List.getElem_toArray, List.getElem_cons_succ, List.getElem_cons_zero, List.setIfInBounds_toArray, List.set_cons_zero, List.set_cons_succ])
  refine wpLA_end ?_
  intro w2 hb
  have S2 := hid (S1.out.on hb)
  clear hb S1
  go_upto_region 1 with fail
  refine wpLA_start ?_
  refine wpLA_take (.agg (cP 0 0)) (yG_build (by rfl) PT _ rfl [] rfl _ builtP0) ?_
  (try simp only [Act.put, List.getElem_toArray, List.getElem_cons_succ, List.getElem_cons_zero, List.setIfInBounds_toArray, List.set_cons_zero, List.set_cons_succ])
  refine wpLA_store rfl PT (.tmp 0) (.tmp 1) rfl p1 (cP 0 0) rfl rfl PT (cP 0 0) S2.out.cl.1 (infoPc 0 0) ((cP_size 0 0).trans (cP_size 0 0).symm) (cP_one 0 0) ?_
  intro wx hb
  have S3 : Hid (St w (wx.setRow p1 (cP 0 0)) [(p1, cP 0 0, PT)] []) := hid ((S2.out.on hb).put0 0 rfl)
  clear hb S2
  generalize wx.setRow p1 (cP 0 0) = w3 at S3 ⊢
  (try simp only [Act.put, List.getElem_toArray, List.getElem_cons_succ, List.getElem_cons_zero, List.setIfInBounds_toArray, List.set_cons_zero, List.set_cons_succ])
  refine wpLA_end ?_
  intro w4 hb
  have S4 := hid (S3.out.on hb)
  clear hb S3
  go_wp2_with fail
  exact bodyPost_ret (v := .agg (cP 0 0)) (results_cell_row rfl _ _ p1 PT _ (0, 0) _ rfl S4.out.cl.1 Tryz.underlying82 rfl (infoPc 0 0)) rfl ⟨rfl, S4.out.below⟩
theorem nothingC : Hid (∀ W : World, Calls Tryz.prog 104 #[] W fun e w' => e = .returned (.agg (cP 0 0)) ∧ Below W.heap.size W w') := hid fun W => nothingC' W
set_option maxHeartbeats 1000000 in
theorem ratiosC' {x a y t : FF} (hy : y = a + 1) (ht : t = x * y) (w : World) : Calls Tryz.prog 88 #[.agg (cP x a)] w fun e w' => e = .returned (.agg (cR x y 1 t)) ∧ Below w.heap.size w w' := by
  obtain ⟨r1, hr1⟩ : ∃ v, v = a + 1 := ⟨_, rfl⟩
  have K0 := yC (x := x) (a := a) hr1
  have K1 : Hid (∀ W : World, Calls Tryz.prog 103 #[.int .u64 1] W fun e w' => e = .returned (.agg (eF 1)) ∧ Below W.heap.size W w') := numE 1 (by omega) rfl
  obtain ⟨r2, hr2⟩ : ∃ v, v = x * r1 := ⟨_, rfl⟩
  have K2 := mulE hr2
  have HE : cR x y 1 t = cR x r1 1 r2 := by
    subst hy ht
    subst hr2 hr1
    rfl
  rw [HE]
  clear HE hy ht hr1 hr2
  go_enter Tryz.func88, Tryz.ntmps88
  have S0 : Hid (St w w [] []) := hid (St.start w)
  go_upto_region 0 with fail
  refine wpLA_start ?_
  refine wpLA_box (cP x a) (by rfl) rfl rfl ?_
  intro p1 w1 hp hz hb
  have S1 : Hid (St w w1 [(p1, cP x a, PT)] []) := hid (S0.out.alloc hb hp hz)
  clear hp hz hb S0
  (try simp only [Act.put, List.getElem_toArray, List.getElem_cons_succ, List.getElem_cons_zero, List.setIfInBounds_toArray, List.set_cons_zero, List.set_cons_succ])
  refine wpLA_alloc (by rfl) rfl zeroRc ?_
  intro p2 w2 hp hz hb
  have S2 : Hid (St w w2 [(p2, cR 0 0 0 0, RT), (p1, cP x a, PT)] []) := hid (S1.out.alloc hb hp hz)
  clear hp hz hb S1
  (try simp only [Act.put, List.getElem_toArray, List.getElem_cons_succ, List.getElem_cons_zero, List.setIfInBounds_toArray, List.set_cons_zero, List.set_cons_succ])
  refine wpLA_end ?_
  intro w3 hb
  have S3 := hid (S2.out.on hb)
  clear hb S2
  go_upto_region 1 with fail
  refine wpLA_start ?_
  refine wpLA_take (.agg (cP x a)) (yG_part (by rfl) PT (.tmp 1) rfl p1 0 rfl PT (cP x a) (cP x a) (0, 0) _ S3.out.cl.2.1 (cP_all x a) Tryz.underlying82 rfl (infoPc x a)) ?_
  (try simp only [Act.put, List.getElem_toArray, List.getElem_cons_succ, List.getElem_cons_zero, List.setIfInBounds_toArray, List.set_cons_zero, List.set_cons_succ])
  refine wpLA_take (.agg (eF r1)) (yG_call (by rfl) (fun w' => by go_simp) (fun w' hb => K0.out w')) ?_
  (try simp only [Act.put, List.getElem_toArray, List.getElem_cons_succ, List.getElem_cons_zero, List.setIfInBounds_toArray, List.set_cons_zero, List.set_cons_succ])
  refine wpLA_alloc (by rfl) rfl zeroF ?_
  intro p4 w4 hp hz hb
  have S4 : Hid (St w w4 [(p4, eF 0, ET), (p2, cR 0 0 0 0, RT), (p1, cP x a, PT)] []) := hid (S3.out.alloc hb hp hz)
  clear hp hz hb S3
  (try simp only [Act.put, List.getElem_toArray, List.getElem_cons_succ, List.getElem_cons_zero, List.setIfInBounds_toArray, List.set_cons_zero, List.set_cons_succ])
  refine wpLA_store rfl ET (.tmp 3) (.tmp 5) rfl p4 (eF r1) rfl rfl ET (eF 0) S4.out.cl.1 (infoF r1) ((eF_size 0).trans (eF_size r1).symm) (eF_one r1) ?_
  intro wx hb
  have S5 : Hid (St w (wx.setRow p4 (eF r1)) [(p4, eF r1, ET), (p2, cR 0 0 0 0, RT), (p1, cP x a, PT)] []) := hid ((S4.out.on hb).put0 0 rfl)
  clear hb S4
  generalize wx.setRow p4 (eF r1) = w5 at S5 ⊢
  (try simp only [Act.put, List.getElem_toArray, List.getElem_cons_succ, List.getElem_cons_zero, List.setIfInBounds_toArray, List.set_cons_zero, List.set_cons_succ])
  refine wpLA_end ?_
  intro w6 hb
  have S6 := hid (S5.out.on hb)
  clear hb S5
  go_upto_region 2 with fail
  refine wp_region_grA 9 (by kernel_rfl) (by decide) ?_
  refine wpGrA_take (i := 0) (.pointer (some ⟨p1, 0, none⟩)) rfl (by kernel_rfl) (by kernel_rfl) (fun _ _ _ h => h) (yG_val _ (by rfl) (fun w' _ => by (go_simp; try rfl))) ?_
  (try simp only [Act.put, List.getElem_toArray, List.getElem_cons_succ, List.getElem_cons_zero, List.setIfInBounds_toArray, List.set_cons_zero, List.set_cons_succ])
  refine wpGrA_take (i := 1) (.agg (eF x)) rfl (by kernel_rfl) (by kernel_rfl) (fun _ _ _ h => h) (yG_part (by rfl) ET (.tmp 6) rfl p1 0 rfl PT (cP x a) (eF x) (0, 0) _ S6.out.cl.2.2.1 (cP_0 x a) Tryz.underlying80 rfl (infoF x)) ?_
  (try simp only [Act.put, List.getElem_toArray, List.getElem_cons_succ, List.getElem_cons_zero, List.setIfInBounds_toArray, List.set_cons_zero, List.set_cons_succ])
  refine wpGrA_take (i := 2) (.agg (eF r1)) rfl (by kernel_rfl) (by kernel_rfl) (fun _ _ _ h => h) (yG_part (by rfl) ET (.tmp 3) rfl p4 0 rfl ET (eF r1) (eF r1) (0, 0) _ S6.out.cl.1 (eF_all r1) Tryz.underlying80 rfl (infoF r1)) ?_
  (try simp only [Act.put, List.getElem_toArray, List.getElem_cons_succ, List.getElem_cons_zero, List.setIfInBounds_toArray, List.set_cons_zero, List.set_cons_succ])
  refine wpGrA_take (i := 3) (.agg (eF 1)) rfl (by kernel_rfl) (by kernel_rfl) (fun _ _ _ h => h) (yG_call (by rfl) (fun w' => by go_simp) (fun w' hb => K1.out w')) ?_
  (try simp only [Act.put, List.getElem_toArray, List.getElem_cons_succ, List.getElem_cons_zero, List.setIfInBounds_toArray, List.set_cons_zero, List.set_cons_succ])
  refine wpGrA_take (i := 4) (.pointer (some ⟨p1, 0, none⟩)) rfl (by kernel_rfl) (by kernel_rfl) (fun _ _ _ h => h) (yG_val _ (by rfl) (fun w' _ => by (go_simp; try rfl))) ?_
  (try simp only [Act.put, List.getElem_toArray, List.getElem_cons_succ, List.getElem_cons_zero, List.setIfInBounds_toArray, List.set_cons_zero, List.set_cons_succ])
  refine wpGrA_take (i := 5) (.agg (eF x)) rfl (by kernel_rfl) (by kernel_rfl) (fun _ _ _ h => h) (yG_part (by rfl) ET (.tmp 10) rfl p1 0 rfl PT (cP x a) (eF x) (0, 0) _ S6.out.cl.2.2.1 (cP_0 x a) Tryz.underlying80 rfl (infoF x)) ?_
  (try simp only [Act.put, List.getElem_toArray, List.getElem_cons_succ, List.getElem_cons_zero, List.setIfInBounds_toArray, List.set_cons_zero, List.set_cons_succ])
  refine wpGrA_take (i := 6) (.agg (eF r1)) rfl (by kernel_rfl) (by kernel_rfl) (fun _ _ _ h => h) (yG_part (by rfl) ET (.tmp 3) rfl p4 0 rfl ET (eF r1) (eF r1) (0, 0) _ S6.out.cl.1 (eF_all r1) Tryz.underlying80 rfl (infoF r1)) ?_
  (try simp only [Act.put, List.getElem_toArray, List.getElem_cons_succ, List.getElem_cons_zero, List.setIfInBounds_toArray, List.set_cons_zero, List.set_cons_succ])
  refine wpGrA_take (i := 7) (.agg (eF r2)) rfl (by kernel_rfl) (by kernel_rfl) (fun _ _ _ h => h) (yG_call (by rfl) (fun w' => by go_simp) (fun w' hb => K2.out w')) ?_
  (try simp only [Act.put, List.getElem_toArray, List.getElem_cons_succ, List.getElem_cons_zero, List.setIfInBounds_toArray, List.set_cons_zero, List.set_cons_succ])
  refine wpGrA_take (i := 8) (.agg (cR x r1 1 r2)) rfl (by kernel_rfl) (by kernel_rfl) (fun _ _ _ h => h) (yG_build (by rfl) RT _ rfl [(0, (.agg (eF x))), (1, (.agg (eF r1))), (2, (.agg (eF 1))), (3, (.agg (eF r2)))] rfl _ (builtRc x r1 1 r2)) ?_
  (try simp only [Act.put, List.getElem_toArray, List.getElem_cons_succ, List.getElem_cons_zero, List.setIfInBounds_toArray, List.set_cons_zero, List.set_cons_succ])
  refine wpGrA_end (by kernel_rfl) ?_
  intro w7 hb
  have S7 := hid (S6.out.on hb)
  clear hb S6
  refine wpLA_here ?_
  refine wpLA_store rfl RT (.tmp 2) (.tmp 14) rfl p2 (cR x r1 1 r2) rfl rfl RT (cR 0 0 0 0) S7.out.cl.2.1 (infoR x r1 1 r2) ((cR_size 0 0 0 0).trans (cR_size x r1 1 r2).symm) (cR_one x r1 1 r2) ?_
  intro wx hb
  have S8 : Hid (St w (wx.setRow p2 (cR x r1 1 r2)) [(p4, eF r1, ET), (p2, cR x r1 1 r2, RT), (p1, cP x a, PT)] []) := hid ((S7.out.on hb).put0 1 rfl)
  clear hb S7
  generalize wx.setRow p2 (cR x r1 1 r2) = w8 at S8 ⊢
  (try simp only [Act.put, List.getElem_toArray, List.getElem_cons_succ, List.getElem_cons_zero, List.setIfInBounds_toArray, List.set_cons_zero, List.set_cons_succ])
  refine wpLA_end ?_
  intro w9 hb
  have S9 := hid (S8.out.on hb)
  clear hb S8
  go_wp2_with fail
  exact bodyPost_ret (v := .agg (cR x r1 1 r2)) (results_cell_row rfl _ _ p2 RT _ (0, 0) _ rfl S9.out.cl.2.1 Tryz.underlying107 rfl (infoR x r1 1 r2)) rfl ⟨rfl, S9.out.below⟩
theorem ratiosC {x a y t : FF} (hy : y = a + 1) (ht : t = x * y) : Hid (∀ W : World, Calls Tryz.prog 88 #[.agg (cP x a)] W fun e w' => e = .returned (.agg (cR x y 1 t)) ∧ Below W.heap.size W w') := hid fun W => ratiosC' hy ht W
set_option maxHeartbeats 1000000 in
theorem addendC' {x a y l m p : FF} (hy : y = a + 1) (hl : l = y - x) (hm : m = y + x) (hp : p = (dd + dd) * x * y) (w : World) : Calls Tryz.prog 90 #[.agg (cP x a)] w fun e w' => e = .returned (.agg (cA l m p)) ∧ Below w.heap.size w w' := by
  obtain ⟨r1, hr1⟩ : ∃ v, v = a + 1 := ⟨_, rfl⟩
  have K0 := yC (x := x) (a := a) hr1
  obtain ⟨r2, hr2⟩ : ∃ v, v = r1 - x := ⟨_, rfl⟩
  have K1 := subE hr2
  obtain ⟨r3, hr3⟩ : ∃ v, v = r1 + x := ⟨_, rfl⟩
  have K2 := addE hr3
  obtain ⟨r4, hr4⟩ : ∃ v, v = dd + dd := ⟨_, rfl⟩
  have K3 := addE hr4
  obtain ⟨r5, hr5⟩ : ∃ v, v = r4 * x := ⟨_, rfl⟩
  have K4 := mulE hr5
  obtain ⟨r6, hr6⟩ : ∃ v, v = r5 * r1 := ⟨_, rfl⟩
  have K5 := mulE hr6
  have HE : cA l m p = cA r2 r3 r6 := by
    subst hy hl hm hp
    subst hr6 hr5 hr4 hr3 hr2 hr1
    rfl
  rw [HE]
  clear HE hy hl hm hp hr1 hr2 hr3 hr4 hr5 hr6
  go_enter Tryz.func90, Tryz.ntmps90
  have S0 : Hid (St w w [] []) := hid (St.start w)
  go_upto_region 0 with fail
  refine wpLA_start ?_
  refine wpLA_box (cP x a) (by rfl) rfl rfl ?_
  intro p1 w1 hp hz hb
  have S1 : Hid (St w w1 [(p1, cP x a, PT)] []) := hid (S0.out.alloc hb hp hz)
  clear hp hz hb S0
  (try simp only [Act.put, List.getElem_toArray, List.getElem_cons_succ, List.getElem_cons_zero, List.setIfInBounds_toArray, List.set_cons_zero, List.set_cons_succ])
  refine wpLA_alloc (by rfl) rfl zeroAc ?_
  intro p2 w2 hp hz hb
  have S2 : Hid (St w w2 [(p2, cA 0 0 0, AT), (p1, cP x a, PT)] []) := hid (S1.out.alloc hb hp hz)
  clear hp hz hb S1
  (try simp only [Act.put, List.getElem_toArray, List.getElem_cons_succ, List.getElem_cons_zero, List.setIfInBounds_toArray, List.set_cons_zero, List.set_cons_succ])
  refine wpLA_end ?_
  intro w3 hb
  have S3 := hid (S2.out.on hb)
  clear hb S2
  go_upto_region 1 with fail
  refine wpLA_start ?_
  refine wpLA_take (.agg (cP x a)) (yG_part (by rfl) PT (.tmp 1) rfl p1 0 rfl PT (cP x a) (cP x a) (0, 0) _ S3.out.cl.2.1 (cP_all x a) Tryz.underlying82 rfl (infoPc x a)) ?_
  (try simp only [Act.put, List.getElem_toArray, List.getElem_cons_succ, List.getElem_cons_zero, List.setIfInBounds_toArray, List.set_cons_zero, List.set_cons_succ])
  refine wpLA_take (.agg (eF r1)) (yG_call (by rfl) (fun w' => by go_simp) (fun w' hb => K0.out w')) ?_
  (try simp only [Act.put, List.getElem_toArray, List.getElem_cons_succ, List.getElem_cons_zero, List.setIfInBounds_toArray, List.set_cons_zero, List.set_cons_succ])
  refine wpLA_take (.agg (eF dd)) (yG_call (by rfl) (fun w' => by go_simp) (fun w' hb => factorC.out w')) ?_
  (try simp only [Act.put, List.getElem_toArray, List.getElem_cons_succ, List.getElem_cons_zero, List.setIfInBounds_toArray, List.set_cons_zero, List.set_cons_succ])
  refine wpLA_alloc (by rfl) rfl zeroF ?_
  intro p4 w4 hp hz hb
  have S4 : Hid (St w w4 [(p4, eF 0, ET), (p2, cA 0 0 0, AT), (p1, cP x a, PT)] []) := hid (S3.out.alloc hb hp hz)
  clear hp hz hb S3
  (try simp only [Act.put, List.getElem_toArray, List.getElem_cons_succ, List.getElem_cons_zero, List.setIfInBounds_toArray, List.set_cons_zero, List.set_cons_succ])
  refine wpLA_alloc (by rfl) rfl zeroF ?_
  intro p5 w5 hp hz hb
  have S5 : Hid (St w w5 [(p5, eF 0, ET), (p4, eF 0, ET), (p2, cA 0 0 0, AT), (p1, cP x a, PT)] []) := hid (S4.out.alloc hb hp hz)
  clear hp hz hb S4
  (try simp only [Act.put, List.getElem_toArray, List.getElem_cons_succ, List.getElem_cons_zero, List.setIfInBounds_toArray, List.set_cons_zero, List.set_cons_succ])
  refine wpLA_store rfl ET (.tmp 3) (.tmp 6) rfl p4 (eF r1) rfl rfl ET (eF 0) S5.out.cl.2.1 (infoF r1) ((eF_size 0).trans (eF_size r1).symm) (eF_one r1) ?_
  intro wx hb
  have S6 : Hid (St w (wx.setRow p4 (eF r1)) [(p5, eF 0, ET), (p4, eF r1, ET), (p2, cA 0 0 0, AT), (p1, cP x a, PT)] []) := hid ((S5.out.on hb).put0 1 rfl)
  clear hb S5
  generalize wx.setRow p4 (eF r1) = w6 at S6 ⊢
  (try simp only [Act.put, List.getElem_toArray, List.getElem_cons_succ, List.getElem_cons_zero, List.setIfInBounds_toArray, List.set_cons_zero, List.set_cons_succ])
  refine wpLA_store rfl ET (.tmp 4) (.tmp 7) rfl p5 (eF dd) rfl rfl ET (eF 0) S6.out.cl.1 (infoF dd) ((eF_size 0).trans (eF_size dd).symm) (eF_one dd) ?_
  intro wx hb
  have S7 : Hid (St w (wx.setRow p5 (eF dd)) [(p5, eF dd, ET), (p4, eF r1, ET), (p2, cA 0 0 0, AT), (p1, cP x a, PT)] []) := hid ((S6.out.on hb).put0 0 rfl)
  clear hb S6
  generalize wx.setRow p5 (eF dd) = w7 at S7 ⊢
  (try simp only [Act.put, List.getElem_toArray, List.getElem_cons_succ, List.getElem_cons_zero, List.setIfInBounds_toArray, List.set_cons_zero, List.set_cons_succ])
  refine wpLA_end ?_
  intro w8 hb
  have S8 := hid (S7.out.on hb)
  clear hb S7
  go_upto_region 2 with fail
  refine wp_region_grA 17 (by kernel_rfl) (by decide) ?_
  refine wpGrA_take (i := 0) (.agg (eF r1)) rfl (by kernel_rfl) (by kernel_rfl) (fun _ _ _ h => h) (yG_part (by rfl) ET (.tmp 3) rfl p4 0 rfl ET (eF r1) (eF r1) (0, 0) _ S8.out.cl.2.1 (eF_all r1) Tryz.underlying80 rfl (infoF r1)) ?_
  (try simp only [Act.put, List.getElem_toArray, List.getElem_cons_succ, List.getElem_cons_zero, List.setIfInBounds_toArray, List.set_cons_zero, List.set_cons_succ])
  refine wpGrA_take (i := 1) (.pointer (some ⟨p1, 0, none⟩)) rfl (by kernel_rfl) (by kernel_rfl) (fun _ _ _ h => h) (yG_val _ (by rfl) (fun w' _ => by (go_simp; try rfl))) ?_
  (try simp only [Act.put, List.getElem_toArray, List.getElem_cons_succ, List.getElem_cons_zero, List.setIfInBounds_toArray, List.set_cons_zero, List.set_cons_succ])
  refine wpGrA_take (i := 2) (.agg (eF x)) rfl (by kernel_rfl) (by kernel_rfl) (fun _ _ _ h => h) (yG_part (by rfl) ET (.tmp 9) rfl p1 0 rfl PT (cP x a) (eF x) (0, 0) _ S8.out.cl.2.2.2.1 (cP_0 x a) Tryz.underlying80 rfl (infoF x)) ?_
  (try simp only [Act.put, List.getElem_toArray, List.getElem_cons_succ, List.getElem_cons_zero, List.setIfInBounds_toArray, List.set_cons_zero, List.set_cons_succ])
  refine wpGrA_take (i := 3) (.agg (eF r2)) rfl (by kernel_rfl) (by kernel_rfl) (fun _ _ _ h => h) (yG_call (by rfl) (fun w' => by go_simp) (fun w' hb => K1.out w')) ?_
  (try simp only [Act.put, List.getElem_toArray, List.getElem_cons_succ, List.getElem_cons_zero, List.setIfInBounds_toArray, List.set_cons_zero, List.set_cons_succ])
  refine wpGrA_take (i := 4) (.agg (eF r1)) rfl (by kernel_rfl) (by kernel_rfl) (fun _ _ _ h => h) (yG_part (by rfl) ET (.tmp 3) rfl p4 0 rfl ET (eF r1) (eF r1) (0, 0) _ S8.out.cl.2.1 (eF_all r1) Tryz.underlying80 rfl (infoF r1)) ?_
  (try simp only [Act.put, List.getElem_toArray, List.getElem_cons_succ, List.getElem_cons_zero, List.setIfInBounds_toArray, List.set_cons_zero, List.set_cons_succ])
  refine wpGrA_take (i := 5) (.pointer (some ⟨p1, 0, none⟩)) rfl (by kernel_rfl) (by kernel_rfl) (fun _ _ _ h => h) (yG_val _ (by rfl) (fun w' _ => by (go_simp; try rfl))) ?_
  (try simp only [Act.put, List.getElem_toArray, List.getElem_cons_succ, List.getElem_cons_zero, List.setIfInBounds_toArray, List.set_cons_zero, List.set_cons_succ])
  refine wpGrA_take (i := 6) (.agg (eF x)) rfl (by kernel_rfl) (by kernel_rfl) (fun _ _ _ h => h) (yG_part (by rfl) ET (.tmp 13) rfl p1 0 rfl PT (cP x a) (eF x) (0, 0) _ S8.out.cl.2.2.2.1 (cP_0 x a) Tryz.underlying80 rfl (infoF x)) ?_
  (try simp only [Act.put, List.getElem_toArray, List.getElem_cons_succ, List.getElem_cons_zero, List.setIfInBounds_toArray, List.set_cons_zero, List.set_cons_succ])
  refine wpGrA_take (i := 7) (.agg (eF r3)) rfl (by kernel_rfl) (by kernel_rfl) (fun _ _ _ h => h) (yG_call (by rfl) (fun w' => by go_simp) (fun w' hb => K2.out w')) ?_
  (try simp only [Act.put, List.getElem_toArray, List.getElem_cons_succ, List.getElem_cons_zero, List.setIfInBounds_toArray, List.set_cons_zero, List.set_cons_succ])
  refine wpGrA_take (i := 8) (.agg (eF dd)) rfl (by kernel_rfl) (by kernel_rfl) (fun _ _ _ h => h) (yG_part (by rfl) ET (.tmp 4) rfl p5 0 rfl ET (eF dd) (eF dd) (0, 0) _ S8.out.cl.1 (eF_all dd) Tryz.underlying80 rfl (infoF dd)) ?_
  (try simp only [Act.put, List.getElem_toArray, List.getElem_cons_succ, List.getElem_cons_zero, List.setIfInBounds_toArray, List.set_cons_zero, List.set_cons_succ])
  refine wpGrA_take (i := 9) (.agg (eF dd)) rfl (by kernel_rfl) (by kernel_rfl) (fun _ _ _ h => h) (yG_part (by rfl) ET (.tmp 4) rfl p5 0 rfl ET (eF dd) (eF dd) (0, 0) _ S8.out.cl.1 (eF_all dd) Tryz.underlying80 rfl (infoF dd)) ?_
  (try simp only [Act.put, List.getElem_toArray, List.getElem_cons_succ, List.getElem_cons_zero, List.setIfInBounds_toArray, List.set_cons_zero, List.set_cons_succ])
  refine wpGrA_take (i := 10) (.agg (eF r4)) rfl (by kernel_rfl) (by kernel_rfl) (fun _ _ _ h => h) (yG_call (by rfl) (fun w' => by go_simp) (fun w' hb => K3.out w')) ?_
  (try simp only [Act.put, List.getElem_toArray, List.getElem_cons_succ, List.getElem_cons_zero, List.setIfInBounds_toArray, List.set_cons_zero, List.set_cons_succ])
  refine wpGrA_take (i := 11) (.pointer (some ⟨p1, 0, none⟩)) rfl (by kernel_rfl) (by kernel_rfl) (fun _ _ _ h => h) (yG_val _ (by rfl) (fun w' _ => by (go_simp; try rfl))) ?_
  (try simp only [Act.put, List.getElem_toArray, List.getElem_cons_succ, List.getElem_cons_zero, List.setIfInBounds_toArray, List.set_cons_zero, List.set_cons_succ])
  refine wpGrA_take (i := 12) (.agg (eF x)) rfl (by kernel_rfl) (by kernel_rfl) (fun _ _ _ h => h) (yG_part (by rfl) ET (.tmp 19) rfl p1 0 rfl PT (cP x a) (eF x) (0, 0) _ S8.out.cl.2.2.2.1 (cP_0 x a) Tryz.underlying80 rfl (infoF x)) ?_
  (try simp only [Act.put, List.getElem_toArray, List.getElem_cons_succ, List.getElem_cons_zero, List.setIfInBounds_toArray, List.set_cons_zero, List.set_cons_succ])
  refine wpGrA_take (i := 13) (.agg (eF r5)) rfl (by kernel_rfl) (by kernel_rfl) (fun _ _ _ h => h) (yG_call (by rfl) (fun w' => by go_simp) (fun w' hb => K4.out w')) ?_
  (try simp only [Act.put, List.getElem_toArray, List.getElem_cons_succ, List.getElem_cons_zero, List.setIfInBounds_toArray, List.set_cons_zero, List.set_cons_succ])
  refine wpGrA_take (i := 14) (.agg (eF r1)) rfl (by kernel_rfl) (by kernel_rfl) (fun _ _ _ h => h) (yG_part (by rfl) ET (.tmp 3) rfl p4 0 rfl ET (eF r1) (eF r1) (0, 0) _ S8.out.cl.2.1 (eF_all r1) Tryz.underlying80 rfl (infoF r1)) ?_
  (try simp only [Act.put, List.getElem_toArray, List.getElem_cons_succ, List.getElem_cons_zero, List.setIfInBounds_toArray, List.set_cons_zero, List.set_cons_succ])
  refine wpGrA_take (i := 15) (.agg (eF r6)) rfl (by kernel_rfl) (by kernel_rfl) (fun _ _ _ h => h) (yG_call (by rfl) (fun w' => by go_simp) (fun w' hb => K5.out w')) ?_
  (try simp only [Act.put, List.getElem_toArray, List.getElem_cons_succ, List.getElem_cons_zero, List.setIfInBounds_toArray, List.set_cons_zero, List.set_cons_succ])
  refine wpGrA_take (i := 16) (.agg (cA r2 r3 r6)) rfl (by kernel_rfl) (by kernel_rfl) (fun _ _ _ h => h) (yG_build (by rfl) AT _ rfl [(0, (.agg (eF r2))), (1, (.agg (eF r3))), (2, (.agg (eF r6)))] rfl _ (builtAc r2 r3 r6)) ?_
  (try simp only [Act.put, List.getElem_toArray, List.getElem_cons_succ, List.getElem_cons_zero, List.setIfInBounds_toArray, List.set_cons_zero, List.set_cons_succ])
  refine wpGrA_end (by kernel_rfl) ?_
  intro w9 hb
  have S9 := hid (S8.out.on hb)
  clear hb S8
  refine wpLA_here ?_
  refine wpLA_store rfl AT (.tmp 2) (.tmp 24) rfl p2 (cA r2 r3 r6) rfl rfl AT (cA 0 0 0) S9.out.cl.2.2.1 (infoA r2 r3 r6) ((cA_size 0 0 0).trans (cA_size r2 r3 r6).symm) (cA_one r2 r3 r6) ?_
  intro wx hb
  have S10 : Hid (St w (wx.setRow p2 (cA r2 r3 r6)) [(p5, eF dd, ET), (p4, eF r1, ET), (p2, cA r2 r3 r6, AT), (p1, cP x a, PT)] []) := hid ((S9.out.on hb).put0 2 rfl)
  clear hb S9
  generalize wx.setRow p2 (cA r2 r3 r6) = w10 at S10 ⊢
  (try simp only [Act.put, List.getElem_toArray, List.getElem_cons_succ, List.getElem_cons_zero, List.setIfInBounds_toArray, List.set_cons_zero, List.set_cons_succ])
  refine wpLA_end ?_
  intro w11 hb
  have S11 := hid (S10.out.on hb)
  clear hb S10
  go_wp2_with fail
  exact bodyPost_ret (v := .agg (cA r2 r3 r6)) (results_cell_row rfl _ _ p2 AT _ (0, 0) _ rfl S11.out.cl.2.2.1 Tryz.underlying116 rfl (infoA r2 r3 r6)) rfl ⟨rfl, S11.out.below⟩
theorem addendC {x a y l m p : FF} (hy : y = a + 1) (hl : l = y - x) (hm : m = y + x) (hp : p = (dd + dd) * x * y) : Hid (∀ W : World, Calls Tryz.prog 90 #[.agg (cP x a)] W fun e w' => e = .returned (.agg (cA l m p)) ∧ Below W.heap.size W w') := hid fun W => addendC' hy hl hm hp W
set_option maxHeartbeats 1000000 in
theorem pointC' {x y z t r s : FF} (hr : r = x * FI z) (hs : s = y * FI z - 1) (w : World) : Calls Tryz.prog 79 #[.agg (cR x y z t)] w fun e w' => e = .returned (.agg (cP r s)) ∧ Below w.heap.size w w' := by
  obtain ⟨r1, hr1⟩ : ∃ v, v = FI z := ⟨_, rfl⟩
  have K0 := invE hr1
  obtain ⟨r2, hr2⟩ : ∃ v, v = x * r1 := ⟨_, rfl⟩
  have K1 := mulE hr2
  obtain ⟨r3, hr3⟩ : ∃ v, v = y * r1 := ⟨_, rfl⟩
  have K2 := mulE hr3
  obtain ⟨r4, hr4⟩ : ∃ v, v = r3 - 1 := ⟨_, rfl⟩
  have K3 := atC (x := r2) (y := r3) hr4
  have HE : cP r s = cP r2 r4 := by
    subst hr hs
    subst hr4 hr3 hr2 hr1
    rfl
  rw [HE]
  clear HE hr hs hr1 hr2 hr3 hr4
  go_enter Tryz.func79, Tryz.ntmps79
  have S0 : Hid (St w w [] []) := hid (St.start w)
  go_upto_region 0 with fail
  refine wpLA_start ?_
  refine wpLA_box (cR x y z t) (by rfl) rfl rfl ?_
  intro p1 w1 hp hz hb
  have S1 : Hid (St w w1 [(p1, cR x y z t, RT)] []) := hid (S0.out.alloc hb hp hz)
  clear hp hz hb S0
  (try simp only [Act.put, List.getElem_toArray, List.getElem_cons_succ, List.getElem_cons_zero, List.setIfInBounds_toArray, List.set_cons_zero, List.set_cons_succ])
  refine wpLA_alloc (by rfl) rfl zeroPc ?_
  intro p2 w2 hp hz hb
  have S2 : Hid (St w w2 [(p2, cP 0 0, PT), (p1, cR x y z t, RT)] []) := hid (S1.out.alloc hb hp hz)
  clear hp hz hb S1
  (try simp only [Act.put, List.getElem_toArray, List.getElem_cons_succ, List.getElem_cons_zero, List.setIfInBounds_toArray, List.set_cons_zero, List.set_cons_succ])
  refine wpLA_end ?_
  intro w3 hb
  have S3 := hid (S2.out.on hb)
  clear hb S2
  go_upto_region 1 with fail
  refine wpLA_start ?_
  refine wpLA_take (.pointer (some ⟨p1, 8, none⟩)) (yG_val _ (by rfl) (fun w' _ => by (go_simp; try rfl))) ?_
  (try simp only [Act.put, List.getElem_toArray, List.getElem_cons_succ, List.getElem_cons_zero, List.setIfInBounds_toArray, List.set_cons_zero, List.set_cons_succ])
  refine wpLA_take (.agg (eF z)) (yG_part (by rfl) ET (.tmp 4) rfl p1 8 rfl RT (cR x y z t) (eF z) (0, 0) _ S3.out.cl.2.1 (cR_8 x y z t) Tryz.underlying80 rfl (infoF z)) ?_
  (try simp only [Act.put, List.getElem_toArray, List.getElem_cons_succ, List.getElem_cons_zero, List.setIfInBounds_toArray, List.set_cons_zero, List.set_cons_succ])
  refine wpLA_take (.agg (eF r1)) (yG_call (by rfl) (fun w' => by go_simp) (fun w' hb => K0.out w')) ?_
  (try simp only [Act.put, List.getElem_toArray, List.getElem_cons_succ, List.getElem_cons_zero, List.setIfInBounds_toArray, List.set_cons_zero, List.set_cons_succ])
  refine wpLA_alloc (by rfl) rfl zeroF ?_
  intro p4 w4 hp hz hb
  have S4 : Hid (St w w4 [(p4, eF 0, ET), (p2, cP 0 0, PT), (p1, cR x y z t, RT)] []) := hid (S3.out.alloc hb hp hz)
  clear hp hz hb S3
  (try simp only [Act.put, List.getElem_toArray, List.getElem_cons_succ, List.getElem_cons_zero, List.setIfInBounds_toArray, List.set_cons_zero, List.set_cons_succ])
  refine wpLA_store rfl ET (.tmp 3) (.tmp 6) rfl p4 (eF r1) rfl rfl ET (eF 0) S4.out.cl.1 (infoF r1) ((eF_size 0).trans (eF_size r1).symm) (eF_one r1) ?_
  intro wx hb
  have S5 : Hid (St w (wx.setRow p4 (eF r1)) [(p4, eF r1, ET), (p2, cP 0 0, PT), (p1, cR x y z t, RT)] []) := hid ((S4.out.on hb).put0 0 rfl)
  clear hb S4
  generalize wx.setRow p4 (eF r1) = w5 at S5 ⊢
  (try simp only [Act.put, List.getElem_toArray, List.getElem_cons_succ, List.getElem_cons_zero, List.setIfInBounds_toArray, List.set_cons_zero, List.set_cons_succ])
  refine wpLA_end ?_
  intro w6 hb
  have S6 := hid (S5.out.on hb)
  clear hb S5
  go_upto_region 2 with fail
  refine wp_region_grA 9 (by kernel_rfl) (by decide) ?_
  refine wpGrA_take (i := 0) (.pointer (some ⟨p1, 0, none⟩)) rfl (by kernel_rfl) (by kernel_rfl) (fun _ _ _ h => h) (yG_val _ (by rfl) (fun w' _ => by (go_simp; try rfl))) ?_
  (try simp only [Act.put, List.getElem_toArray, List.getElem_cons_succ, List.getElem_cons_zero, List.setIfInBounds_toArray, List.set_cons_zero, List.set_cons_succ])
  refine wpGrA_take (i := 1) (.agg (eF x)) rfl (by kernel_rfl) (by kernel_rfl) (fun _ _ _ h => h) (yG_part (by rfl) ET (.tmp 7) rfl p1 0 rfl RT (cR x y z t) (eF x) (0, 0) _ S6.out.cl.2.2.1 (cR_0 x y z t) Tryz.underlying80 rfl (infoF x)) ?_
  (try simp only [Act.put, List.getElem_toArray, List.getElem_cons_succ, List.getElem_cons_zero, List.setIfInBounds_toArray, List.set_cons_zero, List.set_cons_succ])
  refine wpGrA_take (i := 2) (.agg (eF r1)) rfl (by kernel_rfl) (by kernel_rfl) (fun _ _ _ h => h) (yG_part (by rfl) ET (.tmp 3) rfl p4 0 rfl ET (eF r1) (eF r1) (0, 0) _ S6.out.cl.1 (eF_all r1) Tryz.underlying80 rfl (infoF r1)) ?_
  (try simp only [Act.put, List.getElem_toArray, List.getElem_cons_succ, List.getElem_cons_zero, List.setIfInBounds_toArray, List.set_cons_zero, List.set_cons_succ])
  refine wpGrA_take (i := 3) (.agg (eF r2)) rfl (by kernel_rfl) (by kernel_rfl) (fun _ _ _ h => h) (yG_call (by rfl) (fun w' => by go_simp) (fun w' hb => K1.out w')) ?_
  (try simp only [Act.put, List.getElem_toArray, List.getElem_cons_succ, List.getElem_cons_zero, List.setIfInBounds_toArray, List.set_cons_zero, List.set_cons_succ])
  refine wpGrA_take (i := 4) (.pointer (some ⟨p1, 4, none⟩)) rfl (by kernel_rfl) (by kernel_rfl) (fun _ _ _ h => h) (yG_val _ (by rfl) (fun w' _ => by (go_simp; try rfl))) ?_
  (try simp only [Act.put, List.getElem_toArray, List.getElem_cons_succ, List.getElem_cons_zero, List.setIfInBounds_toArray, List.set_cons_zero, List.set_cons_succ])
  refine wpGrA_take (i := 5) (.agg (eF y)) rfl (by kernel_rfl) (by kernel_rfl) (fun _ _ _ h => h) (yG_part (by rfl) ET (.tmp 11) rfl p1 4 rfl RT (cR x y z t) (eF y) (0, 0) _ S6.out.cl.2.2.1 (cR_4 x y z t) Tryz.underlying80 rfl (infoF y)) ?_
  (try simp only [Act.put, List.getElem_toArray, List.getElem_cons_succ, List.getElem_cons_zero, List.setIfInBounds_toArray, List.set_cons_zero, List.set_cons_succ])
  refine wpGrA_take (i := 6) (.agg (eF r1)) rfl (by kernel_rfl) (by kernel_rfl) (fun _ _ _ h => h) (yG_part (by rfl) ET (.tmp 3) rfl p4 0 rfl ET (eF r1) (eF r1) (0, 0) _ S6.out.cl.1 (eF_all r1) Tryz.underlying80 rfl (infoF r1)) ?_
  (try simp only [Act.put, List.getElem_toArray, List.getElem_cons_succ, List.getElem_cons_zero, List.setIfInBounds_toArray, List.set_cons_zero, List.set_cons_succ])
  refine wpGrA_take (i := 7) (.agg (eF r3)) rfl (by kernel_rfl) (by kernel_rfl) (fun _ _ _ h => h) (yG_call (by rfl) (fun w' => by go_simp) (fun w' hb => K2.out w')) ?_
  (try simp only [Act.put, List.getElem_toArray, List.getElem_cons_succ, List.getElem_cons_zero, List.setIfInBounds_toArray, List.set_cons_zero, List.set_cons_succ])
  refine wpGrA_take (i := 8) (.agg (cP r2 r4)) rfl (by kernel_rfl) (by kernel_rfl) (fun _ _ _ h => h) (yG_call (by rfl) (fun w' => by go_simp) (fun w' hb => K3.out w')) ?_
  (try simp only [Act.put, List.getElem_toArray, List.getElem_cons_succ, List.getElem_cons_zero, List.setIfInBounds_toArray, List.set_cons_zero, List.set_cons_succ])
  refine wpGrA_end (by kernel_rfl) ?_
  intro w7 hb
  have S7 := hid (S6.out.on hb)
  clear hb S6
  refine wpLA_here ?_
  refine wpLA_store rfl PT (.tmp 2) (.tmp 15) rfl p2 (cP r2 r4) rfl rfl PT (cP 0 0) S7.out.cl.2.1 (infoPc r2 r4) ((cP_size 0 0).trans (cP_size r2 r4).symm) (cP_one r2 r4) ?_
  intro wx hb
  have S8 : Hid (St w (wx.setRow p2 (cP r2 r4)) [(p4, eF r1, ET), (p2, cP r2 r4, PT), (p1, cR x y z t, RT)] []) := hid ((S7.out.on hb).put0 1 rfl)
  clear hb S7
  generalize wx.setRow p2 (cP r2 r4) = w8 at S8 ⊢
  (try simp only [Act.put, List.getElem_toArray, List.getElem_cons_succ, List.getElem_cons_zero, List.setIfInBounds_toArray, List.set_cons_zero, List.set_cons_succ])
  refine wpLA_end ?_
  intro w9 hb
  have S9 := hid (S8.out.on hb)
  clear hb S8
  go_wp2_with fail
  exact bodyPost_ret (v := .agg (cP r2 r4)) (results_cell_row rfl _ _ p2 PT _ (0, 0) _ rfl S9.out.cl.2.1 Tryz.underlying82 rfl (infoPc r2 r4)) rfl ⟨rfl, S9.out.below⟩
theorem pointC {x y z t r s : FF} (hr : r = x * FI z) (hs : s = y * FI z - 1) : Hid (∀ W : World, Calls Tryz.prog 79 #[.agg (cR x y z t)] W fun e w' => e = .returned (.agg (cP r s)) ∧ Below W.heap.size W w') := hid fun W => pointC' hr hs W
set_option maxHeartbeats 1000000 in
theorem crossedC' {x u y k q1 q2 q3 q4 : FF} (h1 : q1 = x * k) (h2 : q2 = y * u) (h3 : q3 = u * k) (h4 : q4 = x * y) (w : World) : Calls Tryz.prog 115 #[.agg (eF x), .agg (eF u), .agg (eF y), .agg (eF k)] w fun e w' => e = .returned (.agg (cR q1 q2 q3 q4)) ∧ Below w.heap.size w w' := by
  obtain ⟨r1, hr1⟩ : ∃ v, v = x * k := ⟨_, rfl⟩
  have K0 := mulE hr1
  obtain ⟨r2, hr2⟩ : ∃ v, v = y * u := ⟨_, rfl⟩
  have K1 := mulE hr2
  obtain ⟨r3, hr3⟩ : ∃ v, v = u * k := ⟨_, rfl⟩
  have K2 := mulE hr3
  obtain ⟨r4, hr4⟩ : ∃ v, v = x * y := ⟨_, rfl⟩
  have K3 := mulE hr4
  have HE : cR q1 q2 q3 q4 = cR r1 r2 r3 r4 := by
    subst h1 h2 h3 h4
    subst hr4 hr3 hr2 hr1
    rfl
  rw [HE]
  clear HE h1 h2 h3 h4 hr1 hr2 hr3 hr4
  go_enter Tryz.func115, Tryz.ntmps115
  have S0 : Hid (St w w [] []) := hid (St.start w)
  go_upto_region 0 with fail
  refine wpLA_start ?_
  refine wpLA_box (eF x) (by rfl) rfl rfl ?_
  intro p1 w1 hp hz hb
  have S1 : Hid (St w w1 [(p1, eF x, ET)] []) := hid (S0.out.alloc hb hp hz)
  clear hp hz hb S0
  (try simp only [Act.put, List.getElem_toArray, List.getElem_cons_succ, List.getElem_cons_zero, List.setIfInBounds_toArray, List.set_cons_zero, List.set_cons_succ])
  refine wpLA_box (eF u) (by rfl) rfl rfl ?_
  intro p2 w2 hp hz hb
  have S2 : Hid (St w w2 [(p2, eF u, ET), (p1, eF x, ET)] []) := hid (S1.out.alloc hb hp hz)
  clear hp hz hb S1
  (try simp only [Act.put, List.getElem_toArray, List.getElem_cons_succ, List.getElem_cons_zero, List.setIfInBounds_toArray, List.set_cons_zero, List.set_cons_succ])
  refine wpLA_box (eF y) (by rfl) rfl rfl ?_
  intro p3 w3 hp hz hb
  have S3 : Hid (St w w3 [(p3, eF y, ET), (p2, eF u, ET), (p1, eF x, ET)] []) := hid (S2.out.alloc hb hp hz)
  clear hp hz hb S2
  (try simp only [Act.put, List.getElem_toArray, List.getElem_cons_succ, List.getElem_cons_zero, List.setIfInBounds_toArray, List.set_cons_zero, List.set_cons_succ])
  refine wpLA_box (eF k) (by rfl) rfl rfl ?_
  intro p4 w4 hp hz hb
  have S4 : Hid (St w w4 [(p4, eF k, ET), (p3, eF y, ET), (p2, eF u, ET), (p1, eF x, ET)] []) := hid (S3.out.alloc hb hp hz)
  clear hp hz hb S3
  (try simp only [Act.put, List.getElem_toArray, List.getElem_cons_succ, List.getElem_cons_zero, List.setIfInBounds_toArray, List.set_cons_zero, List.set_cons_succ])
  refine wpLA_alloc (by rfl) rfl zeroRc ?_
  intro p5 w5 hp hz hb
  have S5 : Hid (St w w5 [(p5, cR 0 0 0 0, RT), (p4, eF k, ET), (p3, eF y, ET), (p2, eF u, ET), (p1, eF x, ET)] []) := hid (S4.out.alloc hb hp hz)
  clear hp hz hb S4
  (try simp only [Act.put, List.getElem_toArray, List.getElem_cons_succ, List.getElem_cons_zero, List.setIfInBounds_toArray, List.set_cons_zero, List.set_cons_succ])
  refine wpLA_end ?_
  intro w6 hb
  have S6 := hid (S5.out.on hb)
  clear hb S5
  go_upto_region 1 with fail
  refine wp_region_grA 13 (by kernel_rfl) (by decide) ?_
  refine wpGrA_take (i := 0) (.agg (eF x)) rfl (by kernel_rfl) (by kernel_rfl) (fun _ _ _ h => h) (yG_part (by rfl) ET (.tmp 4) rfl p1 0 rfl ET (eF x) (eF x) (0, 0) _ S6.out.cl.2.2.2.2.1 (eF_all x) Tryz.underlying80 rfl (infoF x)) ?_
  (try simp only [Act.put, List.getElem_toArray, List.getElem_cons_succ, List.getElem_cons_zero, List.setIfInBounds_toArray, List.set_cons_zero, List.set_cons_succ])
  refine wpGrA_take (i := 1) (.agg (eF k)) rfl (by kernel_rfl) (by kernel_rfl) (fun _ _ _ h => h) (yG_part (by rfl) ET (.tmp 7) rfl p4 0 rfl ET (eF k) (eF k) (0, 0) _ S6.out.cl.2.1 (eF_all k) Tryz.underlying80 rfl (infoF k)) ?_
  (try simp only [Act.put, List.getElem_toArray, List.getElem_cons_succ, List.getElem_cons_zero, List.setIfInBounds_toArray, List.set_cons_zero, List.set_cons_succ])
  refine wpGrA_take (i := 2) (.agg (eF r1)) rfl (by kernel_rfl) (by kernel_rfl) (fun _ _ _ h => h) (yG_call (by rfl) (fun w' => by go_simp) (fun w' hb => K0.out w')) ?_
  (try simp only [Act.put, List.getElem_toArray, List.getElem_cons_succ, List.getElem_cons_zero, List.setIfInBounds_toArray, List.set_cons_zero, List.set_cons_succ])
  refine wpGrA_take (i := 3) (.agg (eF y)) rfl (by kernel_rfl) (by kernel_rfl) (fun _ _ _ h => h) (yG_part (by rfl) ET (.tmp 6) rfl p3 0 rfl ET (eF y) (eF y) (0, 0) _ S6.out.cl.2.2.1 (eF_all y) Tryz.underlying80 rfl (infoF y)) ?_
  (try simp only [Act.put, List.getElem_toArray, List.getElem_cons_succ, List.getElem_cons_zero, List.setIfInBounds_toArray, List.set_cons_zero, List.set_cons_succ])
  refine wpGrA_take (i := 4) (.agg (eF u)) rfl (by kernel_rfl) (by kernel_rfl) (fun _ _ _ h => h) (yG_part (by rfl) ET (.tmp 5) rfl p2 0 rfl ET (eF u) (eF u) (0, 0) _ S6.out.cl.2.2.2.1 (eF_all u) Tryz.underlying80 rfl (infoF u)) ?_
  (try simp only [Act.put, List.getElem_toArray, List.getElem_cons_succ, List.getElem_cons_zero, List.setIfInBounds_toArray, List.set_cons_zero, List.set_cons_succ])
  refine wpGrA_take (i := 5) (.agg (eF r2)) rfl (by kernel_rfl) (by kernel_rfl) (fun _ _ _ h => h) (yG_call (by rfl) (fun w' => by go_simp) (fun w' hb => K1.out w')) ?_
  (try simp only [Act.put, List.getElem_toArray, List.getElem_cons_succ, List.getElem_cons_zero, List.setIfInBounds_toArray, List.set_cons_zero, List.set_cons_succ])
  refine wpGrA_take (i := 6) (.agg (eF u)) rfl (by kernel_rfl) (by kernel_rfl) (fun _ _ _ h => h) (yG_part (by rfl) ET (.tmp 5) rfl p2 0 rfl ET (eF u) (eF u) (0, 0) _ S6.out.cl.2.2.2.1 (eF_all u) Tryz.underlying80 rfl (infoF u)) ?_
  (try simp only [Act.put, List.getElem_toArray, List.getElem_cons_succ, List.getElem_cons_zero, List.setIfInBounds_toArray, List.set_cons_zero, List.set_cons_succ])
  refine wpGrA_take (i := 7) (.agg (eF k)) rfl (by kernel_rfl) (by kernel_rfl) (fun _ _ _ h => h) (yG_part (by rfl) ET (.tmp 7) rfl p4 0 rfl ET (eF k) (eF k) (0, 0) _ S6.out.cl.2.1 (eF_all k) Tryz.underlying80 rfl (infoF k)) ?_
  (try simp only [Act.put, List.getElem_toArray, List.getElem_cons_succ, List.getElem_cons_zero, List.setIfInBounds_toArray, List.set_cons_zero, List.set_cons_succ])
  refine wpGrA_take (i := 8) (.agg (eF r3)) rfl (by kernel_rfl) (by kernel_rfl) (fun _ _ _ h => h) (yG_call (by rfl) (fun w' => by go_simp) (fun w' hb => K2.out w')) ?_
  (try simp only [Act.put, List.getElem_toArray, List.getElem_cons_succ, List.getElem_cons_zero, List.setIfInBounds_toArray, List.set_cons_zero, List.set_cons_succ])
  refine wpGrA_take (i := 9) (.agg (eF x)) rfl (by kernel_rfl) (by kernel_rfl) (fun _ _ _ h => h) (yG_part (by rfl) ET (.tmp 4) rfl p1 0 rfl ET (eF x) (eF x) (0, 0) _ S6.out.cl.2.2.2.2.1 (eF_all x) Tryz.underlying80 rfl (infoF x)) ?_
  (try simp only [Act.put, List.getElem_toArray, List.getElem_cons_succ, List.getElem_cons_zero, List.setIfInBounds_toArray, List.set_cons_zero, List.set_cons_succ])
  refine wpGrA_take (i := 10) (.agg (eF y)) rfl (by kernel_rfl) (by kernel_rfl) (fun _ _ _ h => h) (yG_part (by rfl) ET (.tmp 6) rfl p3 0 rfl ET (eF y) (eF y) (0, 0) _ S6.out.cl.2.2.1 (eF_all y) Tryz.underlying80 rfl (infoF y)) ?_
  (try simp only [Act.put, List.getElem_toArray, List.getElem_cons_succ, List.getElem_cons_zero, List.setIfInBounds_toArray, List.set_cons_zero, List.set_cons_succ])
  refine wpGrA_take (i := 11) (.agg (eF r4)) rfl (by kernel_rfl) (by kernel_rfl) (fun _ _ _ h => h) (yG_call (by rfl) (fun w' => by go_simp) (fun w' hb => K3.out w')) ?_
  (try simp only [Act.put, List.getElem_toArray, List.getElem_cons_succ, List.getElem_cons_zero, List.setIfInBounds_toArray, List.set_cons_zero, List.set_cons_succ])
  refine wpGrA_take (i := 12) (.agg (cR r1 r2 r3 r4)) rfl (by kernel_rfl) (by kernel_rfl) (fun _ _ _ h => h) (yG_build (by rfl) RT _ rfl [(0, (.agg (eF r1))), (1, (.agg (eF r2))), (2, (.agg (eF r3))), (3, (.agg (eF r4)))] rfl _ (builtRc r1 r2 r3 r4)) ?_
  (try simp only [Act.put, List.getElem_toArray, List.getElem_cons_succ, List.getElem_cons_zero, List.setIfInBounds_toArray, List.set_cons_zero, List.set_cons_succ])
  refine wpGrA_end (by kernel_rfl) ?_
  intro w7 hb
  have S7 := hid (S6.out.on hb)
  clear hb S6
  refine wpLA_here ?_
  refine wpLA_store rfl RT (.tmp 8) (.tmp 21) rfl p5 (cR r1 r2 r3 r4) rfl rfl RT (cR 0 0 0 0) S7.out.cl.1 (infoR r1 r2 r3 r4) ((cR_size 0 0 0 0).trans (cR_size r1 r2 r3 r4).symm) (cR_one r1 r2 r3 r4) ?_
  intro wx hb
  have S8 : Hid (St w (wx.setRow p5 (cR r1 r2 r3 r4)) [(p5, cR r1 r2 r3 r4, RT), (p4, eF k, ET), (p3, eF y, ET), (p2, eF u, ET), (p1, eF x, ET)] []) := hid ((S7.out.on hb).put0 0 rfl)
  clear hb S7
  generalize wx.setRow p5 (cR r1 r2 r3 r4) = w8 at S8 ⊢
  (try simp only [Act.put, List.getElem_toArray, List.getElem_cons_succ, List.getElem_cons_zero, List.setIfInBounds_toArray, List.set_cons_zero, List.set_cons_succ])
  refine wpLA_end ?_
  intro w9 hb
  have S9 := hid (S8.out.on hb)
  clear hb S8
  go_wp2_with fail
  exact bodyPost_ret (v := .agg (cR r1 r2 r3 r4)) (results_cell_row rfl _ _ p5 RT _ (0, 0) _ rfl S9.out.cl.1 Tryz.underlying107 rfl (infoR r1 r2 r3 r4)) rfl ⟨rfl, S9.out.below⟩
theorem crossedC {x u y k q1 q2 q3 q4 : FF} (h1 : q1 = x * k) (h2 : q2 = y * u) (h3 : q3 = u * k) (h4 : q4 = x * y) : Hid (∀ W : World, Calls Tryz.prog 115 #[.agg (eF x), .agg (eF u), .agg (eF y), .agg (eF k)] W fun e w' => e = .returned (.agg (cR q1 q2 q3 q4)) ∧ Below W.heap.size W w') := hid fun W => crossedC' h1 h2 h3 h4 W
set_option maxHeartbeats 1000000 in
theorem baseC' {r : FF} (hr : r = Gb.y - 1) (w : World) : Calls Tryz.prog 49 #[] w fun e w' => e = .returned (.agg (cP Gb.x r)) ∧ Below w.heap.size w w' := by
  obtain ⟨r1, hr1⟩ : ∃ v, v = Gb.y - 1 := ⟨_, rfl⟩
  have K0 := atC (x := Gb.x) (y := Gb.y) hr1
  have HE : cP Gb.x r = cP Gb.x r1 := by
    subst hr
    subst hr1
    rfl
  rw [HE]
  clear HE hr hr1
  go_enter Tryz.func49, Tryz.ntmps49
  have S0 : Hid (St w w [] []) := hid (St.start w)
  go_upto_region 0 with fail
  refine wpLA_start ?_
  refine wpLA_alloc (by rfl) rfl zeroPc ?_
  intro p1 w1 hp hz hb
  have S1 : Hid (St w w1 [(p1, cP 0 0, PT)] []) := hid (S0.out.alloc hb hp hz)
  clear hp hz hb S0
  (try simp only [Act.put, List.getElem_toArray, List.getElem_cons_succ, List.getElem_cons_zero, List.setIfInBounds_toArray, List.set_cons_zero, List.set_cons_succ])
  refine wpLA_end ?_
  intro w2 hb
  have S2 := hid (S1.out.on hb)
  clear hb S1
  go_upto_region 1 with fail
  refine wpLA_start ?_
  refine wpLA_take (.agg (eF Gb.x)) (yG_call (by rfl) (fun w' => by go_simp) (fun w' hb => baseXC.out w')) ?_
  (try simp only [Act.put, List.getElem_toArray, List.getElem_cons_succ, List.getElem_cons_zero, List.setIfInBounds_toArray, List.set_cons_zero, List.set_cons_succ])
  refine wpLA_take (.agg (eF Gb.y)) (yG_call (by rfl) (fun w' => by go_simp) (fun w' hb => baseYC.out w')) ?_
  (try simp only [Act.put, List.getElem_toArray, List.getElem_cons_succ, List.getElem_cons_zero, List.setIfInBounds_toArray, List.set_cons_zero, List.set_cons_succ])
  refine wpLA_take (.agg (cP Gb.x r1)) (yG_call (by rfl) (fun w' => by go_simp) (fun w' hb => K0.out w')) ?_
  (try simp only [Act.put, List.getElem_toArray, List.getElem_cons_succ, List.getElem_cons_zero, List.setIfInBounds_toArray, List.set_cons_zero, List.set_cons_succ])
  refine wpLA_store rfl PT (.tmp 0) (.tmp 3) rfl p1 (cP Gb.x r1) rfl rfl PT (cP 0 0) S2.out.cl.1 (infoPc Gb.x r1) ((cP_size 0 0).trans (cP_size Gb.x r1).symm) (cP_one Gb.x r1) ?_
  intro wx hb
  have S3 : Hid (St w (wx.setRow p1 (cP Gb.x r1)) [(p1, cP Gb.x r1, PT)] []) := hid ((S2.out.on hb).put0 0 rfl)
  clear hb S2
  generalize wx.setRow p1 (cP Gb.x r1) = w3 at S3 ⊢
  (try simp only [Act.put, List.getElem_toArray, List.getElem_cons_succ, List.getElem_cons_zero, List.setIfInBounds_toArray, List.set_cons_zero, List.set_cons_succ])
  refine wpLA_end ?_
  intro w4 hb
  have S4 := hid (S3.out.on hb)
  clear hb S3
  go_wp2_with fail
  exact bodyPost_ret (v := .agg (cP Gb.x r1)) (results_cell_row rfl _ _ p1 PT _ (0, 0) _ rfl S4.out.cl.1 Tryz.underlying82 rfl (infoPc Gb.x r1)) rfl ⟨rfl, S4.out.below⟩
theorem baseC {r : FF} (hr : r = Gb.y - 1) : Hid (∀ W : World, Calls Tryz.prog 49 #[] W fun e w' => e = .returned (.agg (cP Gb.x r)) ∧ Below W.heap.size W w') := hid fun W => baseC' hr W
end Go.Proofs.YtgehfbcagaaggaaGreatDoor
end
