/-
  Texts of this claim in one file: TrP, TrQ, TrR, TrS, TrT, TrU, TrV, TrF.
-/
import Derived.Test.YthooibljnfnnhaaPk11
import Derived.Test.YthooibljnfnnhaaPk7
section
namespace Go.Proofs.Ythooibljnfnnhaa
set_option linter.unusedVariables false
set_option linter.unusedSimpArgs false
/-- A node: its kind, leaf, parent. -/
structure Nd where
  k : Nat
  x : Lf
  u : Pnt
def nd00 : Nd := ⟨0, lf0, pr0⟩
/-- The node at a place. -/
def nAt (t : List Nd) (x : Nat) : Nd := t.getD x nd00
/-- The leaf's place i is beneath the node x. -/
def bel (i x : Nat) : Prop := i / 2 ^ lv x = qt x
instance (i x : Nat) : Decidable (bel i x) := inferInstanceAs (Decidable (_ = _))
/-- The node y is the node x or beneath it. -/
def und (y x : Nat) : Prop := lv y ≤ lv x ∧ qt y / 2 ^ (lv x - lv y) = qt x
instance (y x : Nat) : Decidable (und y x) := inferInstanceAs (Decidable (_ ∧ _))
theorem bel_nd (i q l : Nat) : bel i (nd q l) ↔ i / 2 ^ l = q := by unfold bel; rw [lv_nd, qt_nd]
theorem bel_leaf (i j : Nat) : bel i (2 * j) ↔ i = j := by rw [← nd_zero, bel_nd]; simp
theorem und_refl (x : Nat) : und x x := ⟨Nat.le_refl _, by rw [Nat.sub_self, Nat.pow_zero, Nat.div_one]⟩
theorem und_trans {z y x : Nat} (h1 : und z y) (h2 : und y x) : und z x := by
  refine ⟨Nat.le_trans h1.1 h2.1, ?_⟩
  have h := h2.2
  rw [← h1.2, Nat.div_div_eq_div_mul, ← Nat.pow_add] at h
  rw [← h]
  congr 2
  have := h1.1; have := h2.1; omega
theorem bel_und {i y x : Nat} (h1 : bel i y) (h2 : und y x) : bel i x := by
  unfold bel at h1 ⊢
  rw [← h2.2, ← h1, Nat.div_div_eq_div_mul, ← Nat.pow_add]
  congr 2
  have := h2.1; omega
/-- A tree with 2 ^ K leaves. -/
def Sz (t : List Nd) (K : Nat) : Prop := t.length = 2 * 2 ^ K - 1 ∧ K ≤ 16
/-- It is right. -/
structure Rt (t : List Nd) (K : Nat) : Prop where
  size : Sz t K
  node : ∀ x, x < t.length → rightB (nAt t x).k (nAt t x).x (nAt t x).u = true
  even : ∀ x, x < t.length → x % 2 = 0 → (nAt t x).k ≠ 2
  odd : ∀ x, x < t.length → x % 2 = 1 → (nAt t x).k ≠ 1
  some : ∃ x, x < t.length ∧ (nAt t x).k = 1 ∧ (K = 0 ∨ 2 ^ K ≤ x)
  late : ∀ x, x < t.length → ∀ l ∈ (nAt t x).u.late, ∃ i : Nat, l = (i : Int) ∧ i < 2 ^ K ∧ (nAt t (2 * i)).k = 1 ∧ bel i x ∧ ∀ y, y < t.length → (nAt t y).k = 2 → bel i y → und y x → l ∈ (nAt t y).u.late
/-- What the q-th node of a level resolves to. -/
def resN (t : List Nd) : Nat → Nat → List Nat
  | 0, q => if (nAt t (nd q 0)).k = 0 then [] else [nd q 0]
  | l + 1, q => if (nAt t (nd q (l + 1))).k = 0 then resN t l (2 * q) ++ resN t l (2 * q + 1) else nd q (l + 1) :: (nAt t (nd q (l + 1))).u.late.map fun i => 2 * i.toNat
/-- Which nodes are of the tree. -/
theorem in_sz {t : List Nd} {K x : Nat} (h : Sz t K) : x < t.length ↔ lv x ≤ K ∧ qt x < 2 ^ (K - lv x) := by
  rw [h.1, ← in_tree]
  have := Nat.two_pow_pos K
  omega
theorem sz_lt {t : List Nd} {K q l : Nat} (h : Sz t K) (hl : l ≤ K) (hq : q < 2 ^ (K - l)) : nd q l < t.length := (in_sz h).2 (by rw [lv_nd, qt_nd]; exact ⟨hl, hq⟩)
theorem half {K l q : Nat} (hl : l + 1 ≤ K) (hq : q < 2 ^ (K - (l + 1))) : 2 * q < 2 ^ (K - l) ∧ 2 * q + 1 < 2 ^ (K - l) := by
  have : K - l = K - (l + 1) + 1 := by omega
  rw [this, Nat.pow_succ]
  omega
theorem leaf_late {t : List Nd} {K j : Nat} (h : Rt t K) (hj : 2 * j < t.length) : (nAt t (2 * j)).u.late = [] := by
  have hr := h.node _ hj
  have he := h.even _ hj (by omega)
  unfold rightB at hr
  split at hr
  · rw [Bool.and_eq_true] at hr; rw [empty_pr hr.2]
  · split at hr
    · rw [Bool.and_eq_true] at hr; rw [empty_pr hr.2]
    · first | (split at hr; (next h2 => exact absurd h2 he); cases hr) | cases hr
end Go.Proofs.Ythooibljnfnnhaa
end
section
namespace Go.Proofs.Ythooibljnfnnhaa
set_option linter.unusedVariables false
set_option linter.unusedSimpArgs false
/-- A number into rising ones. -/
def putZ (l : List Int) (v : Int) : List Int := l.filter (fun u => decide (u < v)) ++ v :: l.filter (fun u => decide (v < u))
theorem mem_putZ {l : List Int} {v u : Int} : u ∈ putZ l v ↔ u = v ∨ u ∈ l := by
  unfold putZ
  simp only [List.mem_append, List.mem_cons, List.mem_filter, decide_eq_true_eq]
  constructor
  · rintro (h | h | h)
    · exact .inr h.1
    · exact .inl h
    · exact .inr h.1
  · rintro (h | h)
    · exact .inr (.inl h)
    · rcases Int.lt_trichotomy u v with h1 | h1 | h1
      · exact .inl ⟨h, h1⟩
      · exact .inr (.inl h1)
      · exact .inr (.inr ⟨h, h1⟩)
/-- Numbers that rise, each a place: in other words. -/
theorem rise_iff (l : List Int) : riseB l = true ↔ l.Pairwise (· < ·) ∧ ∀ v ∈ l, 0 ≤ v ∧ v ≤ 65535 := by
  constructor
  · intro h
    refine ⟨?_, rise_in h⟩
    rw [List.pairwise_iff_getElem]
    have hst : ∀ i, (hi : i + 1 < l.length) → l[i]'(by omega) < l[i + 1] := fun i hi => by
      unfold riseB at h
      rw [List.all_eq_true] at h
      have h1 := h (i + 1) (List.mem_range.2 hi)
      rw [Bool.not_eq_true'] at h1
      unfold badL at h1
      rw [Bool.or_eq_false_iff, Bool.and_eq_false_iff] at h1
      rcases h1.2 with h2 | h2
      · have := of_decide_eq_false h2; omega
      · have h3 := of_decide_eq_false h2
        rw [Nat.add_sub_cancel, getD_of hi, getD_of (show i < l.length by omega)] at h3
        omega
    intro i j hi hj hij
    obtain ⟨d, rfl⟩ : ∃ d, j = i + 1 + d := ⟨j - i - 1, by omega⟩
    clear hij
    induction d with
    | zero => exact hst i hj
    | succ d ih => exact Int.lt_trans (ih (by omega)) (hst (i + 1 + d) hj)
  · rintro ⟨h1, h2⟩
    refine rise_yes fun i hi => ?_
    have hb := h2 _ (List.getElem_mem hi)
    unfold badL
    rw [getD_of hi, decide_eq_false (by omega), decide_eq_false (by omega), Bool.false_or, Bool.false_or]
    by_cases h0 : 0 < i
    · rw [decide_eq_true h0, Bool.true_and]
      have := (List.pairwise_iff_getElem.1 h1) (i - 1) i (by omega) hi (by omega)
      rw [getD_of (show i - 1 < l.length by omega)]
      exact decide_eq_false (by omega)
    · rw [decide_eq_false h0, Bool.false_and]
theorem rise_put {l : List Int} {v : Int} (h : riseB l = true) (h0 : 0 ≤ v) (h1 : v ≤ 65535) : riseB (putZ l v) = true := by
  rw [rise_iff] at h ⊢
  refine ⟨?_, fun u hu => ?_⟩
  · unfold putZ
    rw [List.pairwise_append, List.pairwise_cons]
    refine ⟨h.1.filter _, ⟨fun u hu => ?_, h.1.filter _⟩, fun a ha b hb => ?_⟩
    · rw [List.mem_filter, decide_eq_true_eq] at hu; exact hu.2
    · rw [List.mem_filter, decide_eq_true_eq] at ha
      rw [List.mem_cons, List.mem_filter, decide_eq_true_eq] at hb
      rcases hb with rfl | hb
      · exact ha.2
      · exact Int.lt_trans ha.2 hb.2
  · rcases mem_putZ.1 hu with rfl | hu
    · exact ⟨h0, h1⟩
    · exact h.2 u hu
/-- Above a leaf's place. -/
def abv (x i : Nat) : Prop := x ≠ 2 * i ∧ bel i x
instance (x i : Nat) : Decidable (abv x i) := inferInstanceAs (Decidable (_ ∧ _))
/-- A leaf put at a place, into rows of any length. -/
def addN (t : List Nd) (l : Lf) (i x : Nat) : Nd := if x = 2 * i then ⟨1, l, pr0⟩ else if (nAt t x).k = 2 ∧ abv x i then ⟨(nAt t x).k, (nAt t x).x, ⟨(nAt t x).u.box, (nAt t x).u.hash, putZ (nAt t x).u.late (i : Int)⟩⟩ else nAt t x
def addT (t : List Nd) (l : Lf) (i n : Nat) : List Nd := (List.range n).map (addN t l i)
theorem addT_length (t : List Nd) (l : Lf) (i n : Nat) : (addT t l i n).length = n := by unfold addT; simp
theorem addT_at {t : List Nd} {l : Lf} {i n x : Nat} (h : x < n) : nAt (addT t l i n) x = addN t l i x := by
  unfold nAt addT
  rw [List.getD_eq_getElem?_getD, List.getElem?_map, List.getElem?_range h]
  rfl
theorem nAt_far {t : List Nd} {x : Nat} (h : t.length ≤ x) : nAt t x = nd00 := by unfold nAt; rw [List.getD_eq_getElem?_getD, List.getElem?_eq_none h]; rfl
theorem addN_k {t : List Nd} {l : Lf} {i x : Nat} (h : x ≠ 2 * i) : (addN t l i x).k = (nAt t x).k := by
  unfold addN
  rw [if_neg h]
  split <;> rfl
theorem addN_late {t : List Nd} {l : Lf} {i x : Nat} (hz : (nAt t (2 * i)).u.late = []) {v : Int} : v ∈ (addN t l i x).u.late ↔ (v ∈ (nAt t x).u.late ∧ x ≠ 2 * i) ∨ (v = (i : Int) ∧ (nAt t x).k = 2 ∧ abv x i) := by
  unfold addN
  by_cases h : x = 2 * i
  · rw [if_pos h]
    constructor
    · intro hv; cases hv
    · rintro (hv | hv)
      · exact absurd h hv.2
      · exact absurd h hv.2.2.1
  · rw [if_neg h]
    split
    · next h2 =>
      show v ∈ putZ (nAt t x).u.late (i : Int) ↔ _
      rw [mem_putZ]
      constructor
      · rintro (hv | hv)
        · exact .inr ⟨hv, h2⟩
        · exact .inl ⟨hv, h⟩
      · rintro (hv | hv)
        · exact .inr hv.1
        · exact .inl hv.1
    · next h2 =>
      constructor
      · exact fun hv => .inl ⟨hv, h⟩
      · rintro (hv | hv)
        · exact hv.1
        · exact absurd hv.2 h2
/-- A leaf added at a blank place, of a tree as great or twice as great: right again. -/
theorem add_right {t : List Nd} {K K' i : Nat} {l : Lf} (h : Rt t K) (hl : leafB l = true) (hi : i < 2 ^ K') (hK : K ≤ K') (hK' : K' ≤ 16) (hb : (nAt t (2 * i)).k = 0) (hr : K' = K ∨ (K' = K + 1 ∧ 2 ^ K ≤ i)) : Rt (addT t l i (2 * 2 ^ K' - 1)) K' := by
  have hp := Nat.two_pow_pos K; have hp' := Nat.two_pow_pos K'
  have hlen : t.length ≤ 2 * 2 ^ K' - 1 := by rw [h.size.1]; have := Nat.pow_le_pow_right (show 0 < 2 by decide) hK; omega
  have hi2 : 2 * i < 2 * 2 ^ K' - 1 := by omega
  have hblank : ∀ x, x < t.length → (nAt t x).k = 0 → nAt t x = nd00 ∨ True := fun _ _ _ => .inr trivial
  have hlate0 : (nAt t (2 * i)).u.late = [] := by
    by_cases hx : 2 * i < t.length
    · exact leaf_late h hx
    · rw [nAt_far (by omega)]; rfl
  have hnode : ∀ x, rightB (nAt t x).k (nAt t x).x (nAt t x).u = true := fun x => by
    by_cases hx : x < t.length
    · exact h.node x hx
    · rw [nAt_far (by omega)]; decide
  have hfar : ∀ x, (nAt t x).k ≠ 0 → x < t.length := fun x hx => by
    rcases Nat.lt_or_ge x t.length with h1 | h1
    · exact h1
    · rw [nAt_far h1] at hx; exact absurd rfl hx
  have hlfar : ∀ x v, v ∈ (nAt t x).u.late → x < t.length := fun x v hv => by
    rcases Nat.lt_or_ge x t.length with h1 | h1
    · exact h1
    · rw [nAt_far h1] at hv; cases hv
  have hi16 : (i : Int) ≤ 65535 := by
    have := Nat.pow_le_pow_right (show 0 < 2 by decide) hK'
    omega
  refine ⟨⟨addT_length _ _ _ _, hK'⟩, fun x hx => ?_, fun x hx he => ?_, fun x hx ho => ?_, ?_, fun x hx v hv => ?_⟩
  · rw [addT_length] at hx
    rw [addT_at hx]
    unfold addN
    split
    · show rightB 1 l pr0 = true
      unfold rightB
      rw [if_neg (by decide), if_pos rfl, hl, empties.2]; rfl
    · split
      · next h2 =>
        have h3 := hnode x
        show rightB (nAt t x).k (nAt t x).x ⟨(nAt t x).u.box, (nAt t x).u.hash, putZ (nAt t x).u.late (i : Int)⟩ = true
        rw [h2.1] at h3 ⊢
        unfold rightB at h3 ⊢
        rw [if_neg (by decide), if_neg (by decide), if_pos rfl, Bool.and_eq_true] at h3 ⊢
        refine ⟨?_, h3.2⟩
        have h4 := h3.1
        unfold parB at h4 ⊢
        rw [Bool.and_eq_true] at h4 ⊢
        exact ⟨rise_put h4.1 (by omega) hi16, h4.2⟩
      · exact hnode x
  · rw [addT_length] at hx
    rw [addT_at hx]
    by_cases h2 : x = 2 * i
    · unfold addN; rw [if_pos h2]; show 1 ≠ 2; decide
    · rw [addN_k h2]
      intro h3
      exact h.even x (hfar x (by omega)) he h3
  · rw [addT_length] at hx
    rw [addT_at hx, addN_k (by omega)]
    intro h3
    exact h.odd x (hfar x (by omega)) ho h3
  · rcases hr with rfl | ⟨rfl, hbig⟩
    · obtain ⟨x, hx, hk, hh⟩ := h.some
      refine ⟨x, by rw [addT_length]; omega, ?_, hh⟩
      rw [addT_at (by omega), addN_k (fun e => by rw [e] at hk; omega)]
      exact hk
    · refine ⟨2 * i, by rw [addT_length]; omega, ?_, .inr ?_⟩
      · rw [addT_at hi2]; unfold addN; rw [if_pos rfl]
      · rw [Nat.pow_succ]; omega
  · rw [addT_length] at hx
    rw [addT_at hx, addN_late hlate0] at hv
    have hkey : ∀ y, y < 2 * 2 ^ K' - 1 → (nAt (addT t l i (2 * 2 ^ K' - 1)) y).k = 2 → y ≠ 2 * i ∧ (nAt t y).k = 2 ∧ y < t.length := fun y hy hk => by
      rw [addT_at hy] at hk
      have hne : y ≠ 2 * i := fun e => by
        unfold addN at hk; rw [if_pos e] at hk; cases hk
      rw [addN_k hne] at hk
      exact ⟨hne, hk, hfar y (by omega)⟩
    rcases hv with ⟨hv, hne⟩ | ⟨rfl, hk2, hab⟩
    · have hxt := hlfar x v hv
      obtain ⟨j, hj, hjn, hjk, hjb, hall⟩ := h.late x hxt v hv
      have hjl : 2 * j < 2 * 2 ^ K' - 1 := by
        have := Nat.pow_le_pow_right (show 0 < 2 by decide) hK; omega
      have hji : 2 * j ≠ 2 * i := fun e => by rw [e] at hjk; omega
      refine ⟨j, hj, by have := Nat.pow_le_pow_right (show 0 < 2 by decide) hK; omega, ?_, hjb, fun y hy hk hby hu => ?_⟩
      · rw [addT_at hjl, addN_k hji]; exact hjk
      · rw [addT_length] at hy
        obtain ⟨h1, h2, h3⟩ := hkey y hy hk
        rw [addT_at hy, addN_late hlate0]
        exact .inl ⟨hall y h3 h2 hby hu, h1⟩
    · refine ⟨i, rfl, hi, ?_, hab.2, fun y hy hk hby hu => ?_⟩
      · rw [addT_at hi2]; unfold addN; rw [if_pos rfl]
      · rw [addT_length] at hy
        obtain ⟨h1, h2, h3⟩ := hkey y hy hk
        rw [addT_at hy, addN_late hlate0]
        exact .inr ⟨rfl, h2, h1, hby⟩
end Go.Proofs.Ythooibljnfnnhaa
end
section
namespace Go.Proofs.Ythooibljnfnnhaa
set_option linter.unusedVariables false
set_option linter.unusedSimpArgs false
/-- Right, but for its members: there may be none in its right half. -/
structure Rt0 (t : List Nd) (K : Nat) : Prop where
  size : Sz t K
  node : ∀ x, x < t.length → rightB (nAt t x).k (nAt t x).x (nAt t x).u = true
  even : ∀ x, x < t.length → x % 2 = 0 → (nAt t x).k ≠ 2
  odd : ∀ x, x < t.length → x % 2 = 1 → (nAt t x).k ≠ 1
  late : ∀ x, x < t.length → ∀ l ∈ (nAt t x).u.late, ∃ i : Nat, l = (i : Int) ∧ i < 2 ^ K ∧ (nAt t (2 * i)).k = 1 ∧ bel i x ∧ ∀ y, y < t.length → (nAt t y).k = 2 → bel i y → und y x → l ∈ (nAt t y).u.late
theorem Rt.zero {t : List Nd} {K : Nat} (h : Rt t K) : Rt0 t K := ⟨h.size, h.node, h.even, h.odd, h.late⟩
theorem Rt0.right {t : List Nd} {K : Nat} (h : Rt0 t K) (hs : ∃ x, x < t.length ∧ (nAt t x).k = 1 ∧ (K = 0 ∨ 2 ^ K ≤ x)) : Rt t K := ⟨h.size, h.node, h.even, h.odd, hs, h.late⟩
/-- A place's leaf is another node, all above is blank. -/
def setN (t : List Nd) (i : Nat) (y : Nd) (x : Nat) : Nd := if x = 2 * i then y else if abv x i then nd00 else nAt t x
def setT (t : List Nd) (i : Nat) (y : Nd) : List Nd := (List.range t.length).map (setN t i y)
theorem setT_length (t : List Nd) (i : Nat) (y : Nd) : (setT t i y).length = t.length := by unfold setT; simp
theorem setT_at {t : List Nd} {i : Nat} {y : Nd} {x : Nat} (h : x < t.length) : nAt (setT t i y) x = setN t i y x := by
  conv => lhs; unfold nAt setT
  rw [List.getD_eq_getElem?_getD, List.getElem?_map, List.getElem?_range h]
  rfl
theorem abv_leaf (i j : Nat) : ¬ abv (2 * j) i := fun h => h.1 (by rw [(bel_leaf i j).1 h.2])
theorem setN_leaf {t : List Nd} {i j : Nat} {y : Nd} (h : j ≠ i) : setN t i y (2 * j) = nAt t (2 * j) := by
  unfold setN
  rw [if_neg (by omega), if_neg (abv_leaf i j)]
/-- A leaf or none in a place: all but the members stays right. -/
theorem set_right {t : List Nd} {K i : Nat} {y : Nd} (h : Rt0 t K) (hi : i < 2 ^ K) (hy : y = nd00 ∨ ∃ l, leafB l = true ∧ y = ⟨1, l, pr0⟩) : Rt0 (setT t i y) K := by
  have hyl : y.u.late = [] := by rcases hy with rfl | ⟨l, -, rfl⟩ <;> rfl
  have hyk : y.k ≠ 2 := by rcases hy with rfl | ⟨l, -, rfl⟩ <;> simp [nd00]
  refine ⟨⟨by rw [setT_length]; exact h.size.1, h.size.2⟩, fun x hx => ?_, fun x hx he => ?_, fun x hx ho => ?_, fun x hx v hv => ?_⟩
  · rw [setT_length] at hx
    rw [setT_at hx]
    unfold setN
    split
    · rcases hy with rfl | ⟨l, hl, rfl⟩
      · decide
      · show rightB 1 l pr0 = true
        unfold rightB
        rw [if_neg (by decide), if_pos rfl, hl, empties.2]; rfl
    · split
      · decide
      · exact h.node x hx
  · rw [setT_length] at hx
    rw [setT_at hx]
    unfold setN
    split
    · exact hyk
    · split
      · decide
      · exact h.even x hx he
  · rw [setT_length] at hx
    rw [setT_at hx]
    unfold setN
    rw [if_neg (by omega)]
    split
    · decide
    · exact h.odd x hx ho
  · rw [setT_length] at hx
    rw [setT_at hx] at hv
    unfold setN at hv
    split at hv
    · rw [hyl] at hv; cases hv
    · next h1 =>
      split at hv
      · cases hv
      · next h2 =>
        obtain ⟨j, hj, hjn, hjk, hjb, hall⟩ := h.late x hx v hv
        have hji : j ≠ i := fun e => h2 ⟨h1, by rw [← e]; exact hjb⟩
        refine ⟨j, hj, hjn, ?_, hjb, fun z hz hk hbz hu => ?_⟩
        · rw [setT_at (by rw [h.size.1]; omega), setN_leaf hji]; exact hjk
        · rw [setT_length] at hz
          rw [setT_at hz] at hk ⊢
          unfold setN at hk ⊢
          split at hk
          · exact absurd hk hyk
          · next h3 =>
            rw [if_neg h3]
            split at hk
            · cases hk
            · next h4 =>
              rw [if_neg h4]
              exact hall z hz hk hbz hu
theorem take_at {t : List Nd} {n x : Nat} (h : x < n) : nAt (t.take n) x = nAt t x := by
  unfold nAt
  rw [List.getD_eq_getElem?_getD, List.getD_eq_getElem?_getD, List.getElem?_take_of_lt h]
/-- A left part of a tree. -/
theorem cut_right {t : List Nd} {K K' : Nat} (h : Rt0 t K) (hK : K' ≤ K) : Rt0 (t.take (2 * 2 ^ K' - 1)) K' := by
  have hpow := Nat.pow_le_pow_right (show 0 < 2 by decide) hK
  have hp := Nat.two_pow_pos K'
  have hlen : (t.take (2 * 2 ^ K' - 1)).length = 2 * 2 ^ K' - 1 := by rw [List.length_take, h.size.1]; omega
  have hlt : ∀ x, x < 2 * 2 ^ K' - 1 → x < t.length := fun x hx => by rw [h.size.1]; omega
  refine ⟨⟨hlen, Nat.le_trans hK h.size.2⟩, fun x hx => ?_, fun x hx he => ?_, fun x hx ho => ?_, fun x hx v hv => ?_⟩
  · rw [hlen] at hx; rw [take_at hx]; exact h.node x (hlt x hx)
  · rw [hlen] at hx; rw [take_at hx]; exact h.even x (hlt x hx) he
  · rw [hlen] at hx; rw [take_at hx]; exact h.odd x (hlt x hx) ho
  · rw [hlen] at hx
    rw [take_at hx] at hv
    obtain ⟨j, hj, hjn, hjk, hjb, hall⟩ := h.late x (hlt x hx) v hv
    have hj' : j < 2 ^ K' := by
      have hin := (in_tree (x := x) (h := K')).1 (by omega)
      unfold bel at hjb
      have h1 := hin.2
      rw [← hjb] at h1
      have h2 : j < 2 ^ (K' - lv x) * 2 ^ lv x := by
        rw [← Nat.div_lt_iff_lt_mul (Nat.two_pow_pos _)]; exact h1
      rw [← Nat.pow_add, show K' - lv x + lv x = K' by omega] at h2
      exact h2
    refine ⟨j, hj, hj', ?_, hjb, fun y hy hk hby hu => ?_⟩
    · rw [take_at (by omega)]; exact hjk
    · rw [hlen] at hy
      rw [take_at hy] at hk ⊢
      exact hall y (hlt y hy) hk hby hu
/-- The members' places. -/
def memT (t : List Nd) (n : Nat) : List Nat := (List.range n).filter fun i => decide ((nAt t (2 * i)).k = 1)
theorem mem_memT {t : List Nd} {n i : Nat} : i ∈ memT t n ↔ i < n ∧ (nAt t (2 * i)).k = 1 := by unfold memT; rw [List.mem_filter, List.mem_range, decide_eq_true_eq]
theorem memT_congr {t u : List Nd} {n : Nat} (h : ∀ i, i < n → ((nAt t (2 * i)).k = 1 ↔ (nAt u (2 * i)).k = 1)) : memT t n = memT u n := by
  unfold memT
  refine List.filter_congr fun i hi => ?_
  rw [decide_eq_decide]
  exact h i (List.mem_range.1 hi)
/-- Places behind which there is none. -/
theorem memT_more {t : List Nd} {n m : Nat} (h : ∀ i, n ≤ i → (nAt t (2 * i)).k ≠ 1) : memT t (n + m) = memT t n := by
  induction m with
  | zero => rfl
  | succ m ih =>
    unfold memT at ih ⊢
    rw [← Nat.add_assoc, List.range_succ, List.filter_append, ih, List.filter_cons, decide_eq_false (h (n + m) (by omega))]
    simp
theorem memT_far {t : List Nd} {n m : Nat} (h : ∀ i, n ≤ i → (nAt t (2 * i)).k ≠ 1) (hm : n ≤ m) : memT t m = memT t n := by
  obtain ⟨d, rfl⟩ : ∃ d, m = n + d := ⟨m - n, by omega⟩
  exact memT_more h
end Go.Proofs.Ythooibljnfnnhaa
end
section
namespace Go.Proofs.Ythooibljnfnnhaa
set_option linter.unusedVariables false
set_option linter.unusedSimpArgs false
/-- The first of some places that is blank, or their number. -/
def firstB (t : List Nd) (n : Nat) : Nat := ((List.range n).find? fun i => decide ((nAt t (2 * i)).k = 0)).getD n
theorem firstB_le (t : List Nd) (n : Nat) : firstB t n ≤ n := by
  unfold firstB
  cases h : (List.range n).find? fun i => decide ((nAt t (2 * i)).k = 0) with
  | none => exact Nat.le_refl _
  | some i => exact Nat.le_of_lt (List.mem_range.1 (List.mem_of_find?_eq_some h))
theorem firstB_blank {t : List Nd} {n : Nat} (h : firstB t n < n) : (nAt t (2 * firstB t n)).k = 0 := by
  unfold firstB at h ⊢
  cases hf : (List.range n).find? fun i => decide ((nAt t (2 * i)).k = 0) with
  | none => rw [hf] at h; exact absurd h (Nat.lt_irrefl _)
  | some i =>
    show (nAt t (2 * i)).k = 0
    have h2 := List.find?_some hf
    simpa using h2
theorem firstB_before {t : List Nd} {n i : Nat} (h : i < firstB t n) : (nAt t (2 * i)).k ≠ 0 := by
  unfold firstB at h
  cases hf : (List.range n).find? fun i => decide ((nAt t (2 * i)).k = 0) with
  | none =>
    rw [hf] at h
    have := List.find?_eq_none.1 hf i (List.mem_range.2 h)
    simpa using this
  | some j =>
    rw [hf] at h
    have hj : j < n := List.mem_range.1 (List.mem_of_find?_eq_some hf)
    have hlt : i < j := h
    have := (List.find?_range_eq_some.1 hf).2.2 i hlt
    simpa using this
theorem addT_k {t : List Nd} {l : Lf} {i n j : Nat} (hj : 2 * j < n) : (nAt (addT t l i n) (2 * j)).k = 1 ↔ j = i ∨ (nAt t (2 * j)).k = 1 := by
  rw [addT_at hj]
  by_cases h : j = i
  · subst h
    unfold addN
    rw [if_pos rfl]
    exact ⟨fun _ => .inl rfl, fun _ => rfl⟩
  · rw [addN_k (by omega)]
    exact ⟨.inr, fun h2 => h2.resolve_left h⟩
theorem leaf_far {t : List Nd} {K i : Nat} (h : Sz t K) (hi : 2 ^ K ≤ i) : (nAt t (2 * i)).k ≠ 1 := by
  rw [nAt_far (by rw [h.1]; omega)]; decide
/-- How many levels a tree has whose last member stands at a place. -/
def cutK (M : Nat) : Nat := if M = 0 then 0 else Nat.log2 M + 1
theorem cutK_lt (M : Nat) : M < 2 ^ cutK M := by
  unfold cutK
  split
  · next h => subst h; decide
  · next h => exact (Nat.log2_lt h).1 (Nat.lt_succ_self _)
theorem cutK_le {M K : Nat} (h : M < 2 ^ K) : cutK M ≤ K := by
  unfold cutK
  split
  · exact Nat.zero_le _
  · next h0 => exact (Nat.log2_lt h0).2 h
theorem cutK_half (M : Nat) : cutK M = 0 ∨ 2 ^ cutK M ≤ 2 * M := by
  unfold cutK
  split
  · exact .inl rfl
  · next h => exact .inr (by rw [Nat.pow_succ]; have := Nat.log2_self_le h; omega)
/-- Cut down to its members a tree is right, and has the same ones. -/
theorem cut_all {t : List Nd} {K M : Nat} (h : Rt0 t K) (hM : M < 2 ^ K) (hm : (nAt t (2 * M)).k = 1) (hl : ∀ i, M < i → i < 2 ^ K → (nAt t (2 * i)).k ≠ 1) :
    Rt (t.take (2 * 2 ^ cutK M - 1)) (cutK M) ∧ memT (t.take (2 * 2 ^ cutK M - 1)) (2 ^ cutK M) = memT t (2 ^ K) := by
  have hc := cutK_lt M; have hk := cutK_le hM
  have hpow := Nat.pow_le_pow_right (show 0 < 2 by decide) hk
  have hcut := cut_right h hk
  refine ⟨hcut.right ⟨2 * M, ?_, ?_, ?_⟩, ?_⟩
  · rw [hcut.size.1]; omega
  · rw [take_at (by omega)]; exact hm
  · exact (cutK_half M).imp id id
  · rw [memT_congr (u := t) (fun i hi => by rw [take_at (by omega)])]
    exact (memT_far (fun i hi => by
      rcases Nat.lt_or_ge i (2 ^ K) with h1 | h1
      · exact hl i (by omega) h1
      · exact leaf_far h.size h1) hpow).symm
end Go.Proofs.Ythooibljnfnnhaa
end
section
namespace Go.Proofs.Ythooibljnfnnhaa
set_option linter.unusedVariables false
set_option linter.unusedSimpArgs false
theorem leaf_kind {t : List Nd} {K i : Nat} (h : Rt0 t K) (hi : i < 2 ^ K) : (nAt t (2 * i)).k = 0 ∨ (nAt t (2 * i)).k = 1 := by
  have hl : 2 * i < t.length := by rw [h.size.1]; omega
  have hr := h.node _ hl
  have he := h.even _ hl (by omega)
  unfold rightB at hr
  by_cases h0 : (nAt t (2 * i)).k = 0
  · exact .inl h0
  · by_cases h1 : (nAt t (2 * i)).k = 1
    · exact .inr h1
    · rw [if_neg h0, if_neg h1, if_neg he] at hr; cases hr
/-- The members stand at the first m places, and the tree is as small as it may be. -/
structure Pref (t : List Nd) (m K : Nat) : Prop where
  right : Rt t K
  mem : ∀ i, i < 2 ^ K → ((nAt t (2 * i)).k = 1 ↔ i < m)
  pos : 0 < m
  le : m ≤ 2 ^ K
  small : K = 0 ∨ 2 ^ K < 2 * m
/-- The levels of a tree with one member more. -/
def moreK (m K : Nat) : Nat := if m = 2 ^ K then K + 1 else K
theorem Pref.add {t : List Nd} {m K : Nat} {l : Lf} (h : Pref t m K) (hl : leafB l = true) (hm : m < 65536) : Pref (addT t l m (2 * 2 ^ moreK m K - 1)) (m + 1) (moreK m K) := by
  have hle := h.le
  have hKm : K ≤ moreK m K := by unfold moreK; split <;> omega
  have hK16 : moreK m K ≤ 16 := by
    unfold moreK
    split
    · next he =>
      have := h.right.size.2
      rcases Nat.lt_or_ge K 16 with h1 | h1
      · omega
      · obtain rfl : K = 16 := by omega
        rw [he] at hm; omega
    · exact h.right.size.2
  have hi : m < 2 ^ moreK m K := by
    unfold moreK
    split
    · next he => rw [Nat.pow_succ]; have := Nat.two_pow_pos K; omega
    · omega
  have hb : (nAt t (2 * m)).k = 0 := by
    by_cases he : m = 2 ^ K
    · rw [nAt_far (by rw [h.right.size.1]; omega)]; rfl
    · rcases leaf_kind h.right.zero (show m < 2 ^ K by omega) with h2 | h2
      · exact h2
      · exact absurd ((h.mem m (by omega)).1 h2) (Nat.lt_irrefl _)
  have hr : moreK m K = K ∨ (moreK m K = K + 1 ∧ 2 ^ K ≤ m) := by
    unfold moreK
    split
    · next he => exact .inr ⟨rfl, by omega⟩
    · exact .inl rfl
  refine ⟨add_right h.right hl hi hKm hK16 hb hr, fun i hi2 => ?_, Nat.succ_pos _, by omega, ?_⟩
  · rw [addT_k (by omega)]
    rcases Nat.lt_or_ge i (2 ^ K) with h1 | h1
    · rw [h.mem i h1]; omega
    · have := leaf_far h.right.size h1
      constructor
      · rintro (h2 | h2)
        · omega
        · exact absurd h2 this
      · intro h2; exact .inl (by omega)
  · unfold moreK
    split
    · next he => exact .inr (by rw [Nat.pow_succ]; omega)
    · next he =>
      rcases h.small with h0 | h0
      · exact .inl h0
      · exact .inr (by omega)
theorem Pref.drop {t : List Nd} {m K : Nat} (h : Pref t (m + 1) K) (hm : 0 < m) : Pref ((setT t m nd00).take (2 * 2 ^ cutK (m - 1) - 1)) m (cutK (m - 1)) := by
  have hle := h.le
  have hs : Rt0 (setT t m nd00) K := set_right h.right.zero (by omega) (.inl rfl)
  have hk : ∀ i, i < 2 ^ K → ((nAt (setT t m nd00) (2 * i)).k = 1 ↔ i < m) := fun i hi => by
    rw [setT_at (by rw [h.right.size.1]; omega)]
    by_cases he : i = m
    · subst he
      unfold setN
      rw [if_pos rfl]
      exact ⟨fun h => (by cases h), fun h => absurd h (Nat.lt_irrefl _)⟩
    · rw [setN_leaf he, h.mem i hi]; omega
  have hc := cutK_lt (m - 1)
  obtain ⟨hr, -⟩ := cut_all hs (M := m - 1) (by omega) ((hk _ (by omega)).2 (by omega)) (fun i h1 h2 h3 => by have := (hk i h2).1 h3; omega)
  refine ⟨hr, fun i hi => ?_, hm, by omega, ?_⟩
  · rw [take_at (by omega)]
    have := Nat.pow_le_pow_right (show 0 < 2 by decide) (cutK_le (M := m - 1) (K := K) (by omega))
    exact hk i (by omega)
  · rcases cutK_half (m - 1) with h0 | h0
    · exact .inl h0
    · exact .inr (by omega)
end Go.Proofs.Ythooibljnfnnhaa
end
section
namespace Go.Proofs.Ythooibljnfnnhaa
set_option linter.unusedVariables false
set_option linter.unusedSimpArgs false
/-- A tree with a leaf more: where it stands, and the tree. -/
def addI (t : List Nd) (K : Nat) : Nat := firstB t (2 ^ K)
def addK (t : List Nd) (K : Nat) : Nat := moreK (addI t K) K
def addU (t : List Nd) (K : Nat) (l : Lf) : List Nd := addT t l (addI t K) (2 * 2 ^ addK t K - 1)
theorem addI_blank {t : List Nd} {K : Nat} (h : Sz t K) : (nAt t (2 * addI t K)).k = 0 := by
  unfold addI
  rcases Nat.lt_or_ge (firstB t (2 ^ K)) (2 ^ K) with h1 | h1
  · exact firstB_blank h1
  · rw [nAt_far (by rw [h.1]; omega)]; rfl
theorem addK_facts {t : List Nd} {K : Nat} (h : Sz t K) (hr : addI t K < 65536) : K ≤ addK t K ∧ addK t K ≤ 16 ∧ addI t K < 2 ^ addK t K ∧ (addK t K = K ∨ (addK t K = K + 1 ∧ 2 ^ K ≤ addI t K)) := by
  have hle : addI t K ≤ 2 ^ K := firstB_le t (2 ^ K)
  have hK := h.2
  have hp := Nat.two_pow_pos K
  unfold addK moreK
  by_cases he : addI t K = 2 ^ K
  · rw [if_pos he]
    refine ⟨by omega, ?_, by rw [Nat.pow_succ]; omega, .inr ⟨rfl, by omega⟩⟩
    rcases Nat.lt_or_ge K 16 with h1 | h1
    · omega
    · obtain rfl : K = 16 := by omega
      rw [he] at hr; omega
  · rw [if_neg he]
    exact ⟨Nat.le_refl _, hK, by omega, .inl rfl⟩
theorem addU_leaf {t : List Nd} {K : Nat} {l : Lf} (h : Rt t K) (hr : addI t K < 65536) : nAt (addU t K l) (2 * addI t K) = ⟨1, l, pr0⟩ ∧ 2 * addI t K < (addU t K l).length := by
  obtain ⟨h1, h2, h3, h4⟩ := addK_facts h.size hr
  have h5 : 2 * addI t K < 2 * 2 ^ addK t K - 1 := by omega
  unfold addU
  rw [addT_length, addT_at h5]
  unfold addN
  rw [if_pos rfl]
  exact ⟨rfl, h5⟩
theorem late_len {t : List Nd} {K x : Nat} (h : Rt t K) : (nAt t x).u.late.length ≤ 65536 := by
  rcases Nat.lt_or_ge x t.length with hx | hx
  · have hr := h.node x hx
    unfold rightB at hr
    split at hr
    · rw [Bool.and_eq_true] at hr; rw [empty_pr hr.2]; decide
    · split at hr
      · rw [Bool.and_eq_true] at hr; rw [empty_pr hr.2]; decide
      · split at hr
        · rw [Bool.and_eq_true] at hr; exact rise_count (parB_len hr.1).1
        · cases hr
  · rw [nAt_far hx]; decide
end Go.Proofs.Ythooibljnfnnhaa
end
section
namespace Go.Proofs.Ythooibljnfnnhaa
set_option linter.unusedVariables false
set_option linter.unusedSimpArgs false
theorem bel_two (i q l : Nat) : bel i (nd q (l + 1)) ↔ bel i (nd (2 * q) l) ∨ bel i (nd (2 * q + 1) l) := by
  rw [bel_nd, bel_nd, bel_nd, Nat.pow_succ, ← Nat.div_div_eq_div_mul]
  omega
theorem und_two (y q l : Nat) : und y (nd q (l + 1)) ↔ y = nd q (l + 1) ∨ und y (nd (2 * q) l) ∨ und y (nd (2 * q + 1) l) := by
  unfold und
  rw [lv_nd, lv_nd, lv_nd, qt_nd, qt_nd, qt_nd]
  constructor
  · rintro ⟨h1, h2⟩
    rcases Nat.lt_or_ge l (lv y) with h | h
    · have hl : lv y = l + 1 := by omega
      rw [hl, Nat.sub_self, Nat.pow_zero, Nat.div_one] at h2
      exact .inl (by rw [← nd_of y, hl, h2])
    · rw [show l + 1 - lv y = (l - lv y) + 1 by omega, Nat.pow_succ, ← Nat.div_div_eq_div_mul] at h2
      rcases Nat.mod_two_eq_zero_or_one (qt y / 2 ^ (l - lv y)) with h3 | h3
      · exact .inr (.inl ⟨h, by omega⟩)
      · exact .inr (.inr ⟨h, by omega⟩)
  · rintro (h | ⟨h1, h2⟩ | ⟨h1, h2⟩)
    · rw [h, lv_nd, qt_nd, Nat.sub_self, Nat.pow_zero, Nat.div_one]; exact ⟨Nat.le_refl _, rfl⟩
    · refine ⟨by omega, ?_⟩
      rw [show l + 1 - lv y = (l - lv y) + 1 by omega, Nat.pow_succ, ← Nat.div_div_eq_div_mul, h2]; omega
    · refine ⟨by omega, ?_⟩
      rw [show l + 1 - lv y = (l - lv y) + 1 by omega, Nat.pow_succ, ← Nat.div_div_eq_div_mul, h2]; omega
/-- Is there a member at a node, or beneath it? -/
def hasM (t : List Nd) : Nat → Nat → Bool
  | 0, q => decide ((nAt t (nd q 0)).k = 1)
  | l + 1, q => hasM t l (2 * q) || hasM t l (2 * q + 1)
theorem hasM_iff (t : List Nd) (l q : Nat) : hasM t l q = true ↔ ∃ i, bel i (nd q l) ∧ (nAt t (2 * i)).k = 1 := by
  induction l generalizing q with
  | zero =>
    rw [hasM, decide_eq_true_iff, nd_zero]
    constructor
    · exact fun h => ⟨q, (bel_leaf q q).2 rfl, h⟩
    · rintro ⟨i, h1, h2⟩; rw [← (bel_leaf i q).1 h1]; exact h2
  | succ l ih =>
    rw [hasM, Bool.or_eq_true, ih, ih]
    constructor
    · rintro (⟨i, h1, h2⟩ | ⟨i, h1, h2⟩)
      · exact ⟨i, (bel_two i q l).2 (.inl h1), h2⟩
      · exact ⟨i, (bel_two i q l).2 (.inr h1), h2⟩
    · rintro ⟨i, h1, h2⟩
      rcases (bel_two i q l).1 h1 with h | h
      · exact .inl ⟨i, h, h2⟩
      · exact .inr ⟨i, h, h2⟩
/-- The members beneath a node, by halves. -/
def memN (t : List Nd) : Nat → Nat → List Nat
  | 0, q => if (nAt t (nd q 0)).k = 0 then [] else [q]
  | l + 1, q => memN t l (2 * q) ++ memN t l (2 * q + 1)
theorem memN_range {t : List Nd} {n : Nat} (h : ∀ i, i < n → (nAt t (2 * i)).k = 0 ∨ (nAt t (2 * i)).k = 1) (l q : Nat) (hq : (q + 1) * 2 ^ l ≤ n) :
    memN t l q = (List.range' (q * 2 ^ l) (2 ^ l)).filter fun i => decide ((nAt t (2 * i)).k = 1) := by
  induction l generalizing q with
  | zero =>
    rw [memN, nd_zero, Nat.pow_zero, Nat.mul_one]
    have hb := h q (by rw [Nat.pow_zero, Nat.mul_one] at hq; omega)
    show _ = [q].filter _
    by_cases h0 : (nAt t (2 * q)).k = 0
    · rw [if_pos h0, List.filter_cons, decide_eq_false (by omega)]; rfl
    · rw [if_neg h0, List.filter_cons, decide_eq_true (by omega)]; rfl
  | succ l ih =>
    have hp : 2 ^ (l + 1) = 2 * 2 ^ l := by rw [Nat.pow_succ, Nat.mul_comm]
    have e1 : (2 * q + 1 + 1) * 2 ^ l = (q + 1) * 2 ^ (l + 1) := by rw [hp, ← Nat.mul_assoc, show (q + 1) * 2 = 2 * q + 1 + 1 by omega]
    have e2 : (2 * q + 1) * 2 ^ l = 2 * q * 2 ^ l + 2 ^ l := by rw [Nat.add_mul, Nat.one_mul]
    have e3 : q * 2 ^ (l + 1) = 2 * q * 2 ^ l := by rw [hp, ← Nat.mul_assoc, Nat.mul_comm q 2]
    have e4 : (2 * q + 1 + 1) * 2 ^ l = (2 * q + 1) * 2 ^ l + 2 ^ l := by rw [Nat.add_mul (2 * q + 1), Nat.one_mul]
    rw [memN, ih (2 * q) (by omega), ih (2 * q + 1) (by omega), ← List.filter_append, e2, e3]
    congr 1
    have h3 := @List.range'_append (2 * q * 2 ^ l) (2 ^ l) (2 ^ l) 1
    rw [Nat.one_mul] at h3
    rw [h3, hp, Nat.two_mul (2 ^ l)]
theorem memN_all {t : List Nd} {K : Nat} (h : ∀ i, i < 2 ^ K → (nAt t (2 * i)).k = 0 ∨ (nAt t (2 * i)).k = 1) : memN t K 0 = memT t (2 ^ K) := by
  rw [memN_range h K 0 (by omega), Nat.zero_mul, ← List.range_eq_range']
  rfl
theorem memN_len (t : List Nd) (l q : Nat) : (memN t l q).length ≤ 2 ^ l := by
  induction l generalizing q with
  | zero => rw [memN]; split <;> simp
  | succ l ih =>
    rw [memN, List.length_append, Nat.pow_succ]
    have := ih (2 * q); have := ih (2 * q + 1); omega
/-- Where rising numbers are parted. -/
def cutL (l : List Int) (c : Int) : Nat := l.countP (fun v => decide (v < c))
theorem cutL_le (l : List Int) (c : Int) : cutL l c ≤ l.length := List.countP_le_length
theorem cut_take {l : List Int} (h : l.Pairwise (· < ·)) (c : Int) : l.take (cutL l c) = l.filter (fun v => decide (v < c)) ∧ l.drop (cutL l c) = l.filter (fun v => decide (c ≤ v)) := by
  induction l with
  | nil => exact ⟨rfl, rfl⟩
  | cons a l ih =>
    rw [List.pairwise_cons] at h
    have hi := ih h.2
    by_cases ha : a < c
    · have e : cutL (a :: l) c = cutL l c + 1 := by unfold cutL; rw [List.countP_cons, if_pos (decide_eq_true ha)]
      rw [e, List.take_succ_cons, List.drop_succ_cons, List.filter_cons, List.filter_cons, decide_eq_true ha, decide_eq_false (show ¬ c ≤ a by omega), hi.1, hi.2]
      exact ⟨rfl, rfl⟩
    · have hz : ∀ v ∈ l, ¬ v < c := fun v hv => by have := h.1 v hv; omega
      have e : cutL (a :: l) c = 0 := by
        unfold cutL
        rw [List.countP_eq_zero]
        intro v hv
        rw [List.mem_cons] at hv
        rcases hv with rfl | hv
        · simpa using ha
        · simpa using hz v hv
      rw [e, List.take_zero, List.drop_zero, List.filter_cons, List.filter_cons, decide_eq_false ha, decide_eq_true (show c ≤ a by omega), List.filter_eq_nil_iff.2 (fun v hv => by simpa using hz v hv), List.filter_eq_self.2 (fun v hv => by have := hz v hv; exact decide_eq_true (by omega))]
      exact ⟨rfl, rfl⟩
/-- Numbers of places beneath a node. -/
def inS (l : List Int) (q m : Nat) : Bool := l.all fun v => decide (((q * 2 ^ m : Nat) : Int) ≤ v) && decide (v ≤ (((q + 1) * 2 ^ m - 1 : Nat) : Int))
def hasA (a b : List Int) : Bool := b.all fun v => decide (v ∈ a)
/-- Where the right half of a node begins. -/
def midS (q l : Nat) : Int := (((2 * q + 1) * 2 ^ l : Nat) : Int)
/-- Is all that is late so between, too? By halves. -/
def lateR (t : List Nd) : Nat → Nat → List Int → Bool
  | 0, q, ab => decide (ab = []) || decide ((nAt t (nd q 0)).k = 1)
  | l + 1, q, ab =>
    if (nAt t (nd q (l + 1))).k = 2 then
      (inS (nAt t (nd q (l + 1))).u.late q (l + 1) && hasA (nAt t (nd q (l + 1))).u.late ab) && (lateR t l (2 * q) ((nAt t (nd q (l + 1))).u.late.take (cutL (nAt t (nd q (l + 1))).u.late (midS q l))) && lateR t l (2 * q + 1) ((nAt t (nd q (l + 1))).u.late.drop (cutL (nAt t (nd q (l + 1))).u.late (midS q l))))
    else lateR t l (2 * q) (ab.take (cutL ab (midS q l))) && lateR t l (2 * q + 1) (ab.drop (cutL ab (midS q l)))
/-- Places beneath a node. -/
def PlS (l : List Int) (q m : Nat) : Prop := ∀ v ∈ l, ∃ i : Nat, v = (i : Int) ∧ bel i (nd q m)
theorem inS_iff {l : List Int} {q m : Nat} : inS l q m = true ↔ PlS l q m := by
  unfold inS PlS
  rw [List.all_eq_true]
  have hp := Nat.two_pow_pos m
  have key : ∀ i : Nat, bel i (nd q m) ↔ q * 2 ^ m ≤ i ∧ i ≤ (q + 1) * 2 ^ m - 1 := fun i => by
    have h1 : (q + 1) * 2 ^ m = q * 2 ^ m + 2 ^ m := by rw [Nat.add_mul, Nat.one_mul]
    rw [bel_nd, Nat.div_eq_iff hp]
    omega
  constructor
  · intro h v hv
    have h1 := h v hv
    rw [Bool.and_eq_true, decide_eq_true_iff, decide_eq_true_iff] at h1
    exact ⟨v.toNat, by omega, (key _).2 (by omega)⟩
  · intro h v hv
    obtain ⟨i, rfl, h2⟩ := h v hv
    have h3 := (key i).1 h2
    rw [Bool.and_eq_true, decide_eq_true_iff, decide_eq_true_iff]
    omega
theorem hasA_iff {a b : List Int} : hasA a b = true ↔ ∀ v ∈ b, v ∈ a := by
  unfold hasA; rw [List.all_eq_true]
  exact ⟨fun h v hv => of_decide_eq_true (h v hv), fun h v hv => decide_eq_true (h v hv)⟩
theorem PlS.parts {l : List Int} {q m : Nat} (h : PlS l q (m + 1)) (hs : l.Pairwise (· < ·)) : PlS (l.take (cutL l (midS q m))) (2 * q) m ∧ PlS (l.drop (cutL l (midS q m))) (2 * q + 1) m := by
  obtain ⟨e1, e2⟩ := cut_take hs (midS q m)
  rw [e1, e2]
  have hp := Nat.two_pow_pos m
  have key : ∀ i : Nat, bel i (nd (2 * q) m) → (i : Int) < midS q m := fun i h => by
    rw [bel_nd, Nat.div_eq_iff hp] at h
    unfold midS
    have h1 : (2 * q + 1) * 2 ^ m = 2 * q * 2 ^ m + 2 ^ m := by rw [Nat.add_mul, Nat.one_mul]
    omega
  have key2 : ∀ i : Nat, bel i (nd (2 * q + 1) m) → midS q m ≤ (i : Int) := fun i h => by
    rw [bel_nd, Nat.div_eq_iff hp] at h
    unfold midS
    omega
  constructor
  · intro v hv
    rw [List.mem_filter, decide_eq_true_iff] at hv
    obtain ⟨i, rfl, h2⟩ := h v hv.1
    rcases (bel_two i q m).1 h2 with h3 | h3
    · exact ⟨i, rfl, h3⟩
    · have := key2 i h3; omega
  · intro v hv
    rw [List.mem_filter, decide_eq_true_iff] at hv
    obtain ⟨i, rfl, h2⟩ := h v hv.1
    rcases (bel_two i q m).1 h2 with h3 | h3
    · have := key i h3; omega
    · exact ⟨i, rfl, h3⟩
theorem mem_parts {l : List Int} (hs : l.Pairwise (· < ·)) (c v : Int) (hv : v ∈ l) : (v ∈ l.take (cutL l c) ∧ v < c) ∨ (v ∈ l.drop (cutL l c) ∧ c ≤ v) := by
  obtain ⟨e1, e2⟩ := cut_take hs c
  rw [e1, e2]
  by_cases h : v < c
  · exact .inl ⟨List.mem_filter.2 ⟨hv, decide_eq_true h⟩, h⟩
  · exact .inr ⟨List.mem_filter.2 ⟨hv, decide_eq_true (by omega)⟩, by omega⟩
/-- What is asked of one late place of a node. -/
def LtI (t : List Nd) (x i : Nat) : Prop := (nAt t (2 * i)).k = 1 ∧ ∀ y, y < t.length → (nAt t y).k = 2 → bel i y → und y x → (i : Int) ∈ (nAt t y).u.late
/-- What is asked beneath a node. -/
structure LateS (t : List Nd) (l q : Nat) (ab : List Int) : Prop where
  above : ∀ v ∈ ab, ∃ i : Nat, v = (i : Int) ∧ LtI t (nd q l) i
  beneath : ∀ x, x < t.length → und x (nd q l) → (nAt t x).k = 2 → ∀ v ∈ (nAt t x).u.late, ∃ i : Nat, v = (i : Int) ∧ bel i x ∧ LtI t x i
theorem und_leaf {y q : Nat} (h : und y (nd q 0)) : y = nd q 0 := by
  unfold und at h
  rw [lv_nd, qt_nd] at h
  have hl : lv y = 0 := by omega
  rw [hl, Nat.sub_self, Nat.pow_zero, Nat.div_one] at h
  rw [← nd_of y, hl, h.2]
theorem late_rise {t : List Nd} (hn : ∀ x, x < t.length → rightB (nAt t x).k (nAt t x).x (nAt t x).u = true) {x : Nat} (hx : x < t.length) : (nAt t x).u.late.Pairwise (· < ·) ∧ ((nAt t x).k ≠ 2 → (nAt t x).u.late = []) := by
  have hr := hn x hx
  unfold rightB at hr
  split at hr
  · next h0 => rw [Bool.and_eq_true] at hr; rw [empty_pr hr.2]; exact ⟨List.Pairwise.nil, fun _ => rfl⟩
  · split at hr
    · rw [Bool.and_eq_true] at hr; rw [empty_pr hr.2]; exact ⟨List.Pairwise.nil, fun _ => rfl⟩
    · split at hr
      · next h2 =>
        rw [Bool.and_eq_true] at hr
        exact ⟨((rise_iff _).1 (parB_len hr.1).1).1, fun h => absurd h2 h⟩
      · cases hr
theorem lateR_iff {t : List Nd} {K : Nat} (hz : Sz t K) (hn : ∀ x, x < t.length → rightB (nAt t x).k (nAt t x).x (nAt t x).u = true) (he : ∀ x, x < t.length → x % 2 = 0 → (nAt t x).k ≠ 2)
    (l q : Nat) (ab : List Int) (hl : l ≤ K) (hq : q < 2 ^ (K - l)) (hab : PlS ab q l) (hs : ab.Pairwise (· < ·)) : lateR t l q ab = true ↔ LateS t l q ab := by
  induction l generalizing q ab with
  | zero =>
    rw [lateR, Bool.or_eq_true, decide_eq_true_iff, decide_eq_true_iff]
    have hx := sz_lt hz hl hq
    have hev : nd q 0 % 2 = 0 := by rw [nd_zero]; omega
    have hno : ∀ y, und y (nd q 0) → (nAt t y).k ≠ 2 := fun y hy => by rw [und_leaf hy]; exact he _ hx hev
    constructor
    · intro h
      refine ⟨fun v hv => ?_, fun x hx hu hk => absurd hk (hno x hu)⟩
      obtain ⟨i, hi, hb⟩ := hab v hv
      have hk : (nAt t (nd q 0)).k = 1 := h.resolve_left fun h0 => by rw [h0] at hv; cases hv
      rw [nd_zero, bel_leaf] at hb
      refine ⟨i, hi, ⟨by rw [hb, ← nd_zero]; exact hk, fun y hy hk2 _ hu => absurd hk2 (hno y hu)⟩⟩
    · intro h
      cases ab with
      | nil => exact .inl rfl
      | cons v ab =>
        obtain ⟨i, hi, hlt⟩ := h.above v (List.mem_cons_self ..)
        obtain ⟨j, hj, hb⟩ := hab v (List.mem_cons_self ..)
        have hij : i = j := by omega
        rw [nd_zero, bel_leaf] at hb
        refine .inr ?_
        rw [nd_zero, ← hb, ← hij]; exact hlt.1
  | succ l ih =>
    obtain ⟨q1, q2⟩ := half hl hq
    have hx := sz_lt hz hl hq
    have hc1 : und (nd (2 * q) l) (nd q (l + 1)) := (und_two _ q l).2 (.inr (.inl (und_refl _)))
    have hc2 : und (nd (2 * q + 1) l) (nd q (l + 1)) := (und_two _ q l).2 (.inr (.inr (und_refl _)))
    have hp := Nat.two_pow_pos l
    -- a child's condition, from its own
    have down : ∀ (r i : Nat), und r (nd q (l + 1)) → LtI t (nd q (l + 1)) i → LtI t r i := fun r i hr h => ⟨h.1, fun y hy hk hb hu => h.2 y hy hk hb (und_trans hu hr)⟩
    have low : ∀ i, bel i (nd (2 * q) l) → (i : Int) < midS q l := fun i h => by
      rw [bel_nd, Nat.div_eq_iff hp] at h
      unfold midS
      have h1 : (2 * q + 1) * 2 ^ l = 2 * q * 2 ^ l + 2 ^ l := by rw [Nat.add_mul, Nat.one_mul]
      omega
    have high : ∀ i, bel i (nd (2 * q + 1) l) → midS q l ≤ (i : Int) := fun i h => by
      rw [bel_nd, Nat.div_eq_iff hp] at h
      unfold midS
      omega
    -- of a row parted in two: both halves' conditions give each its own
    have up : ∀ (late : List Int) (hls : late.Pairwise (· < ·)) (hlp : PlS late q (l + 1)), LateS t l (2 * q) (late.take (cutL late (midS q l))) → LateS t l (2 * q + 1) (late.drop (cutL late (midS q l))) →
        ∀ i : Nat, (i : Int) ∈ late → (nAt t (2 * i)).k = 1 ∧ ∀ y, y < t.length → (nAt t y).k = 2 → bel i y → (und y (nd (2 * q) l) ∨ und y (nd (2 * q + 1) l)) → (i : Int) ∈ (nAt t y).u.late := by
      intro late hls hlp h1 h2 i hi
      rcases mem_parts hls (midS q l) (i : Int) hi with ⟨hm, hlt⟩ | ⟨hm, hge⟩
      · obtain ⟨j, hj, hltI⟩ := h1.above _ hm
        have : j = i := by omega
        subst this
        refine ⟨hltI.1, fun y hy hk hb hu => ?_⟩
        rcases hu with hu | hu
        · exact hltI.2 y hy hk hb hu
        · have := high j (bel_und hb hu); omega
      · obtain ⟨j, hj, hltI⟩ := h2.above _ hm
        have : j = i := by omega
        subst this
        refine ⟨hltI.1, fun y hy hk hb hu => ?_⟩
        rcases hu with hu | hu
        · have := low j (bel_und hb hu); omega
        · exact hltI.2 y hy hk hb hu
    rw [lateR]
    by_cases hk : (nAt t (nd q (l + 1))).k = 2
    · rw [if_pos hk, Bool.and_eq_true, Bool.and_eq_true, Bool.and_eq_true, inS_iff, hasA_iff]
      obtain ⟨hls, -⟩ := late_rise hn hx
      obtain ⟨late, hlate⟩ : ∃ L, L = (nAt t (nd q (l + 1))).u.late := ⟨_, rfl⟩
      rw [← hlate] at hls ⊢
      constructor
      · rintro ⟨⟨h1, h2⟩, h3, h4⟩
        obtain ⟨p1, p2⟩ := h1.parts hls
        rw [ih (2 * q) _ (by omega) q1 p1 (hls.sublist (List.take_sublist _ _))] at h3
        rw [ih (2 * q + 1) _ (by omega) q2 p2 (hls.sublist (List.drop_sublist _ _))] at h4
        have hall := up late hls h1 h3 h4
        have full : ∀ i : Nat, (i : Int) ∈ late → LtI t (nd q (l + 1)) i := fun i hi => by
          obtain ⟨a, b⟩ := hall i hi
          refine ⟨a, fun y hy hk2 hb hu => ?_⟩
          rcases (und_two y q l).1 hu with rfl | hu
          · rw [← hlate]; exact hi
          · exact b y hy hk2 hb hu
        refine ⟨fun v hv => ?_, fun x hxl hu hkx v hv => ?_⟩
        · obtain ⟨i, rfl, -⟩ := hab v hv
          exact ⟨i, rfl, full i (h2 _ hv)⟩
        · rcases (und_two x q l).1 hu with rfl | hu | hu
          · rw [← hlate] at hv
            obtain ⟨i, rfl, hb⟩ := h1 v hv
            exact ⟨i, rfl, hb, full i hv⟩
          · exact h3.beneath x hxl hu hkx v hv
          · exact h4.beneath x hxl hu hkx v hv
      · intro h
        have h1 : PlS late q (l + 1) := fun v hv => by
          obtain ⟨i, hi, hb, -⟩ := h.beneath _ hx (und_refl _) hk v (by rw [← hlate]; exact hv)
          exact ⟨i, hi, hb⟩
        obtain ⟨p1, p2⟩ := h1.parts hls
        have hself : ∀ v ∈ late, ∃ i : Nat, v = (i : Int) ∧ LtI t (nd q (l + 1)) i := fun v hv => by
          obtain ⟨i, hi, -, hc⟩ := h.beneath _ hx (und_refl _) hk v (by rw [← hlate]; exact hv)
          exact ⟨i, hi, hc⟩
        refine ⟨⟨h1, fun v hv => ?_⟩, ?_, ?_⟩
        · obtain ⟨i, hi, hlt⟩ := h.above v hv
          obtain ⟨j, hj, hb⟩ := hab v hv
          have : i = j := by omega
          subst this
          have := hlt.2 _ hx hk hb (und_refl _)
          rw [← hlate, ← hi] at this
          exact this
        · rw [ih (2 * q) _ (by omega) q1 p1 (hls.sublist (List.take_sublist _ _))]
          refine ⟨fun v hv => ?_, fun x hxl hu hkx v hv => h.beneath x hxl (und_trans hu hc1) hkx v hv⟩
          obtain ⟨i, hi, hc⟩ := hself v (List.mem_of_mem_take hv)
          exact ⟨i, hi, down _ i hc1 hc⟩
        · rw [ih (2 * q + 1) _ (by omega) q2 p2 (hls.sublist (List.drop_sublist _ _))]
          refine ⟨fun v hv => ?_, fun x hxl hu hkx v hv => h.beneath x hxl (und_trans hu hc2) hkx v hv⟩
          obtain ⟨i, hi, hc⟩ := hself v (List.mem_of_mem_drop hv)
          exact ⟨i, hi, down _ i hc2 hc⟩
    · rw [if_neg hk, Bool.and_eq_true]
      obtain ⟨p1, p2⟩ := hab.parts hs
      rw [ih (2 * q) _ (by omega) q1 p1 (hs.sublist (List.take_sublist _ _)), ih (2 * q + 1) _ (by omega) q2 p2 (hs.sublist (List.drop_sublist _ _))]
      constructor
      · rintro ⟨h3, h4⟩
        have hall := up ab hs hab h3 h4
        refine ⟨fun v hv => ?_, fun x hxl hu hkx v hv => ?_⟩
        · obtain ⟨i, rfl, -⟩ := hab v hv
          obtain ⟨a, b⟩ := hall i hv
          refine ⟨i, rfl, a, fun y hy hk2 hb hu => ?_⟩
          rcases (und_two y q l).1 hu with rfl | hu
          · exact absurd hk2 hk
          · exact b y hy hk2 hb hu
        · rcases (und_two x q l).1 hu with rfl | hu | hu
          · exact absurd hkx hk
          · exact h3.beneath x hxl hu hkx v hv
          · exact h4.beneath x hxl hu hkx v hv
      · intro h
        refine ⟨⟨fun v hv => ?_, fun x hxl hu hkx v hv => h.beneath x hxl (und_trans hu hc1) hkx v hv⟩, ⟨fun v hv => ?_, fun x hxl hu hkx v hv => h.beneath x hxl (und_trans hu hc2) hkx v hv⟩⟩
        · obtain ⟨i, hi, hc⟩ := h.above v (List.mem_of_mem_take hv)
          exact ⟨i, hi, down _ i hc1 hc⟩
        · obtain ⟨i, hi, hc⟩ := h.above v (List.mem_of_mem_drop hv)
          exact ⟨i, hi, down _ i hc2 hc⟩
/-- Each node is right, and may stand at its place. -/
def AreR (t : List Nd) : Prop := ∀ x, x < t.length → rightB (nAt t x).k (nAt t x).x (nAt t x).u = true ∧ (x % 2 = 0 → (nAt t x).k ≠ 2) ∧ (x % 2 = 1 → (nAt t x).k ≠ 1)
/-- The part that may not be without a member. -/
def endQ (K : Nat) : Nat := if K = 0 then 0 else 1
def endL (K : Nat) : Nat := K - 1
theorem end_iff {t : List Nd} {K : Nat} (hz : Sz t K) (ho : ∀ x, x < t.length → x % 2 = 1 → (nAt t x).k ≠ 1) : hasM t (endL K) (endQ K) = true ↔ ∃ x, x < t.length ∧ (nAt t x).k = 1 ∧ (K = 0 ∨ 2 ^ K ≤ x) := by
  rw [hasM_iff]
  have key : ∀ x, x < t.length → (nAt t x).k = 1 → ∃ i, x = 2 * i ∧ i < 2 ^ K := fun x hx hk => by
    rcases Nat.mod_two_eq_zero_or_one x with h0 | h0
    · exact ⟨x / 2, by omega, by rw [hz.1] at hx; omega⟩
    · exact absurd hk (ho x hx h0)
  have hfar : ∀ i, (nAt t (2 * i)).k = 1 → 2 * i < t.length := fun i hk => by
    rcases Nat.lt_or_ge (2 * i) t.length with h | h
    · exact h
    · rw [nAt_far h] at hk; cases hk
  unfold endL endQ
  by_cases h0 : K = 0
  · subst h0
    constructor
    · rintro ⟨i, -, hk⟩; exact ⟨2 * i, hfar i hk, hk, .inl rfl⟩
    · rintro ⟨x, hx, hk, -⟩
      obtain ⟨i, rfl, hi⟩ := key x hx hk
      exact ⟨i, by rw [if_pos rfl, bel_nd]; rw [Nat.pow_zero] at hi; omega, hk⟩
  · obtain ⟨k, rfl⟩ : ∃ k, K = k + 1 := ⟨K - 1, by omega⟩
    have hp := Nat.two_pow_pos k
    have hps : 2 ^ (k + 1) = 2 * 2 ^ k := by rw [Nat.pow_succ, Nat.mul_comm]
    rw [if_neg h0, Nat.add_sub_cancel]
    constructor
    · rintro ⟨i, hb, hk⟩
      rw [bel_nd, Nat.div_eq_iff hp] at hb
      exact ⟨2 * i, hfar i hk, hk, .inr (by omega)⟩
    · rintro ⟨x, hx, hk, hh⟩
      obtain ⟨i, rfl, hi⟩ := key x hx hk
      refine ⟨i, ?_, hk⟩
      rw [bel_nd, Nat.div_eq_iff hp]
      rcases hh with hh | hh <;> omega
/-- Which trees may be, by halves. -/
theorem rt_iff {t : List Nd} {K : Nat} (hz : Sz t K) : Rt t K ↔ AreR t ∧ hasM t (endL K) (endQ K) = true ∧ lateR t K 0 [] = true := by
  have hroot : ∀ x, x < t.length → und x (nd 0 K) := fun x hx => by
    obtain ⟨h1, h2⟩ := (in_sz hz).1 hx
    unfold und
    rw [lv_nd, qt_nd]
    exact ⟨h1, Nat.div_eq_of_lt h2⟩
  constructor
  · intro h
    refine ⟨fun x hx => ⟨h.node x hx, h.even x hx, h.odd x hx⟩, (end_iff hz h.odd).2 h.some, ?_⟩
    rw [lateR_iff hz h.node h.even K 0 [] (Nat.le_refl _) (by rw [Nat.sub_self]; decide) (fun v hv => by cases hv) List.Pairwise.nil]
    refine ⟨fun v hv => (by cases hv), fun x hx _ hk v hv => ?_⟩
    obtain ⟨i, hi, -, hk1, hb, hall⟩ := h.late x hx v hv
    exact ⟨i, hi, hb, hk1, fun y hy hky hby hu => by rw [← hi]; exact hall y hy hky hby hu⟩
  · rintro ⟨hA, hE, hL⟩
    have hn := fun x hx => (hA x hx).1
    have he := fun x hx => (hA x hx).2.1
    have ho := fun x hx => (hA x hx).2.2
    rw [lateR_iff hz hn he K 0 [] (Nat.le_refl _) (by rw [Nat.sub_self]; decide) (fun v hv => by cases hv) List.Pairwise.nil] at hL
    refine ⟨hz, hn, he, ho, (end_iff hz ho).1 hE, fun x hx v hv => ?_⟩
    have hk : (nAt t x).k = 2 := by
      by_cases hk : (nAt t x).k = 2
      · exact hk
      · rw [(late_rise hn hx).2 hk] at hv; cases hv
    obtain ⟨i, hi, hb, hk1, hall⟩ := hL.beneath x hx (hroot x hx) hk v hv
    have hlt : i < 2 ^ K := by
      have : 2 * i < t.length := by
        rcases Nat.lt_or_ge (2 * i) t.length with h | h
        · exact h
        · rw [nAt_far h] at hk1; cases hk1
      rw [hz.1] at this; omega
    exact ⟨i, hi, hlt, hk1, hb, fun y hy hky hby hu => by rw [hi]; exact hall y hy hky hby hu⟩
noncomputable instance rgtDec (t : List Nd) : Decidable (∃ K, Rt t K) := Classical.propDecidable _
/-- Which trees may be. -/
noncomputable def rgt (t : List Nd) : Bool := decide (∃ K, Rt t K)
theorem rgt_yes {t : List Nd} {K : Nat} (h : Rt t K) : rgt t = true := by unfold rgt; exact decide_eq_true ⟨K, h⟩
theorem rgt_rt {t : List Nd} (h : rgt t = true) : ∃ K, Rt t K := by unfold rgt at h; exact of_decide_eq_true h
theorem rgt_no {t : List Nd} (h : ∀ K, ¬ Rt t K) : rgt t = false := by unfold rgt; exact decide_eq_false (fun ⟨K, hK⟩ => h K hK)
theorem sz_one {t : List Nd} {K K' : Nat} (h : Sz t K) (h' : Sz t K') : K = K' := by
  have h1 := h.1; have h2 := h'.1
  have := Nat.two_pow_pos K; have := Nat.two_pow_pos K'
  rcases Nat.lt_trichotomy K K' with h3 | h3 | h3
  · have := Nat.pow_lt_pow_right (show 1 < 2 by decide) h3; omega
  · exact h3
  · have := Nat.pow_lt_pow_right (show 1 < 2 by decide) h3; omega
theorem rgt_sz {t : List Nd} {K : Nat} (hz : Sz t K) : rgt t = true ↔ Rt t K := ⟨fun h => by obtain ⟨K', h'⟩ := rgt_rt h; rw [sz_one hz h'.size]; exact h', rgt_yes⟩
end Go.Proofs.Ythooibljnfnnhaa
end
section
namespace Go.Proofs.Ythooibljnfnnhaa
open Go Go.RowKit
set_option linter.unusedVariables false
set_option linter.unusedSimpArgs false
/-- Where a node's slices lie. -/
structure NA where
  l : LA
  p : PA
abbrev ndW (n : Nd) (a : NA) : Array Value := ndV n.k n.x a.l n.u a.p
def ndL (n : Nd) (a : NA) : List Value := (ndW n a).toList
theorem ndL_length (n : Nd) (a : NA) : (ndL n a).length = 10 := rfl
/-- A row of nodes as cells. -/
def trL (t : List Nd) (ad : List NA) : List Value := (t.zip ad).flatMap fun p => ndL p.1 p.2
theorem trL_get {t : List Nd} {ad : List NA} {j c : Nat} {n : Nd} {a : NA} {u : Value} (hn : t[j]? = some n) (ha : ad[j]? = some a) (hu : (ndL n a)[c]? = some u) : (trL t ad)[j * 10 + c]? = some u := by
  induction t generalizing ad j with
  | nil => cases hn
  | cons m t ih =>
    cases ad with
    | nil => cases ha
    | cons b ad =>
      have hst : trL (m :: t) (b :: ad) = ndL m b ++ trL t ad := by unfold trL; simp
      rw [hst]
      have hc : c < 10 := by have := (List.getElem?_eq_some_iff.1 hu).1; rw [ndL_length] at this; exact this
      cases j with
      | zero =>
        simp only [List.getElem?_cons_zero, Option.some.injEq] at hn ha
        subst hn ha
        rw [Nat.zero_mul, Nat.zero_add, List.getElem?_append_left (by rw [ndL_length]; exact hc)]
        exact hu
      | succ j =>
        rw [List.getElem?_cons_succ] at hn ha
        rw [List.getElem?_append_right (by rw [ndL_length]; omega), ndL_length, show (j + 1) * 10 + c - 10 = j * 10 + c by omega]
        exact ih hn ha
/-- A node's slices lie below B. -/
def NdIn (w : World) (B : Nat) (n : Nd) (a : NA) : Prop := LfB w B n.x a.l ∧ PrB w B n.u a.p
theorem NdIn.on {w w' : World} {B : Nat} {n : Nd} {a : NA} (h : NdIn w B n a) (hb : Below B w w') : NdIn w' B n a := ⟨h.1.on hb, h.2.on hb⟩
theorem LfB.more {w : World} {B B' : Nat} {x : Lf} {a : LA} (h : LfB w B x a) (hB : B ≤ B') : LfB w B' x a := ⟨h.1.more hB, h.2.1.more hB, h.2.2.1.more hB, h.2.2.2.1.more hB, h.2.2.2.2.more hB⟩
theorem PrB.more {w : World} {B B' : Nat} {x : Pnt} {a : PA} (h : PrB w B x a) (hB : B ≤ B') : PrB w B' x a := ⟨h.1.more hB, h.2.1.more hB, h.2.2.more hB⟩
/-- A row of nodes lies below B, and so does what its nodes hold. -/
structure TrIn (w : World) (B : Nat) (A : Option Addr) (t : List Nd) (ad : List NA) : Prop where
  len : ad.length = t.length
  row : Lie w B A (trL t ad)
  nodes : ∀ (j : Nat) (n : Nd) (a : NA), t[j]? = some n → ad[j]? = some a → NdIn w B n a
theorem TrIn.on {w w' : World} {B : Nat} {A : Option Addr} {t : List Nd} {ad : List NA} (h : TrIn w B A t ad) (hb : Below B w w') : TrIn w' B A t ad := ⟨h.len, h.row.below hb, fun j n a h1 h2 => (h.nodes j n a h1 h2).on hb⟩
theorem TrIn.more {w : World} {B B' : Nat} {A : Option Addr} {t : List Nd} {ad : List NA} (h : TrIn w B A t ad) (hB : B ≤ B') : TrIn w B' A t ad := ⟨h.len, h.row.more hB, fun j n a h1 h2 => ⟨(h.nodes j n a h1 h2).1.more hB, (h.nodes j n a h1 h2).2.more hB⟩⟩
theorem TrIn.up {w w' : World} {A : Option Addr} {t : List Nd} {ad : List NA} (h : TrIn w w.heap.size A t ad) (hb : Below w.heap.size w w') : TrIn w' w'.heap.size A t ad := (h.on hb).more hb.size
theorem TrIn.nil (w : World) (B : Nat) (A : Option Addr) : TrIn w B A [] [] := ⟨rfl, Lie.nil, fun j n a h => by cases h⟩
theorem trL_length (t : List Nd) (ad : List NA) (h : ad.length = t.length) : (trL t ad).length = t.length * 10 := by
  induction t generalizing ad with
  | nil => cases ad <;> rfl
  | cons m t ih =>
    cases ad with
    | nil => cases h
    | cons b ad =>
      have hst : trL (m :: t) (b :: ad) = ndL m b ++ trL t ad := by unfold trL; simp
      rw [hst, List.length_append, ndL_length, ih ad (by simpa using h), List.length_cons]; omega
/-- Where a node of a row lies: its ten cells. -/
theorem TrIn.at_ {w : World} {B : Nat} {A : Option Addr} {t : List Nd} {ad : List NA} (h : TrIn w B A t ad) {j : Nat} (hj : j < t.length) :
    ∃ b o n a, A = some ⟨b, o, none⟩ ∧ b < B ∧ t[j]? = some n ∧ n = nAt t j ∧ NdIn w B n a ∧ w.rangeAt b (o + j * 10) (ndL n a) := by
  obtain ⟨n, hn⟩ : ∃ n, t[j]? = some n := ⟨_, List.getElem?_eq_getElem hj⟩
  obtain ⟨a, ha⟩ : ∃ a, ad[j]? = some a := ⟨_, List.getElem?_eq_getElem (by rw [h.len]; exact hj)⟩
  have hne : trL t ad ≠ [] := fun e => by
    have := trL_length t ad h.len
    rw [e, List.length_nil] at this
    omega
  obtain ⟨b, o, hA, hb, hc⟩ := h.row hne
  refine ⟨b, o, n, a, hA, hb, hn, ?_, h.nodes j n a hn ha, fun c u hu => ?_⟩
  · unfold nAt; rw [List.getD_eq_getElem?_getD, hn]; rfl
  · rw [Nat.add_assoc]
    exact hc _ _ (trL_get hn ha hu)
theorem lf_range {w : World} {b o : Nat} {n : Nd} {a : NA} (h : w.rangeAt b o (ndL n a)) : w.rangeAt b (o + 1) (lfV n.x a.l).toList := fun j u hu => by
  have hj := (List.getElem?_eq_some_iff.1 hu).1
  have h2 := h (1 + j) u (by
    rcases j with _ | _ | _ | _ | _ | _ | j
    iterate 6 exact hu
    simp at hj; omega)
  rw [← Nat.add_assoc] at h2
  exact h2
theorem kind_at {w : World} {b o : Nat} {n : Nd} {a : NA} (h : w.rangeAt b o (ndL n a)) : w.cell? ⟨b, o, none⟩ = some (.int .u8 (n.k : Int)) := h 0 _ rfl
theorem late_at {w : World} {b o : Nat} {n : Nd} {a : NA} (h : w.rangeAt b o (ndL n a)) : w.cell? ⟨b, o + 9, none⟩ = some (.slice a.p.a2 n.u.late.length a.p.c2) := h 9 _ rfl
end Go.Proofs.Ythooibljnfnnhaa
end
