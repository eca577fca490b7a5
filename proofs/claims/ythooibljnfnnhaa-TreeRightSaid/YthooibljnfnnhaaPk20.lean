/-
  Texts of this claim in one file: TcO, TcP, TcD, TcE, TcQ, TcR, TcF, TcS, TcG, TcU, TcT.
-/
import Derived.Test.YthooibljnfnnhaaPk19
import Derived.Test.YthooibljnfnnhaaPk16
import Derived.Test.YthooibljnfnnhaaPk17
import Derived.Test.YthooibljnfnnhaaPk18
section
namespace Go.Proofs.Ythooibljnfnnhaa
open Go Go.RowKit
set_option linter.unusedVariables false
set_option linter.unusedSimpArgs false
/-- The k-th node above a leaf's place. -/
def upN (i k : Nat) : Nat := nd (i / 2 ^ (k + 1)) (k + 1)
theorem upN_ne {i j k : Nat} (h : j ≠ k) : upN i j ≠ upN i k := fun e => by have := (nd_inj e).2; omega
theorem upN_lt {t : List Nd} {K i k : Nat} (hz : Sz t K) (hi : i < 2 ^ K) (hk : k < K) : upN i k < t.length := sz_lt hz (show k + 1 ≤ K by omega) (by
  have h := div_lt hi (show k + 1 ≤ K by omega)
  exact h)
theorem upN_abv {t : List Nd} {K i : Nat} (hz : Sz t K) (hi : i < 2 ^ K) {x : Nat} (hx : x < t.length) : abv x i ↔ ∃ k, k < K ∧ x = upN i k := by
  constructor
  · rintro ⟨h1, h2⟩
    obtain ⟨h3, h4⟩ := (in_sz hz).1 hx
    unfold bel at h2
    have h0 : lv x ≠ 0 := fun h => h1 (by rw [← nd_of x, h, ← h2, h, Nat.pow_zero, Nat.div_one, nd_zero])
    refine ⟨lv x - 1, by omega, ?_⟩
    unfold upN
    rw [show lv x - 1 + 1 = lv x by omega, h2, nd_of]
  · rintro ⟨k, hk, rfl⟩
    unfold upN
    refine ⟨fun e => ?_, (bel_nd _ _ _).2 rfl⟩
    rw [← nd_zero] at e
    have := (nd_inj e).2
    omega
theorem path_get (i K k : Nat) (hk : k < K) : (pathL i 0 K)[k]'(by rw [pathL_length]; exact hk) = upN i k := by
  have h := pathL_get i 0 K k hk
  rw [List.getElem?_eq_getElem (by rw [pathL_length]; exact hk), Nat.zero_add] at h
  exact Option.some.inj h
theorem path_call {K i m : Nat} (hm : m = 2 * i) (hi : i < 2 ^ K) (hK : K ≤ 16) (W : World) : Calls Try.prog 59 #[.int .i64 (m : Int), .int .i64 ((2 ^ K : Nat) : Int)] W (OwnLn W (pathL i 0 K)) := by
  have h := path_e i 0 K W hi (by omega)
  rw [nd_zero, Nat.zero_add, ← hm] at h
  exact h
theorem leaves_call {A : Option Addr} {t : List Nd} {K c : Nat} (hz : Sz t K) (W : World) : Calls Try.prog 38 #[.slice A t.length c] W fun e w' => e = .returned (.int .i64 ((2 ^ K : Nat) : Int)) ∧ w' = W := by
  have h := leaves_e A t.length c W (by have := hz.1; have := pow_le16 hz.2; omega)
  unfold lvsN at h
  rw [lvs_sz hz] at h
  exact h
/-- A node's late places were written anew. -/
theorem MT.late {w1 w2 : World} {B g C : Nat} {t : List Nd} {ad : List NA} (h : MT w1 B g C t ad) {x : Nat} (hx : x < t.length) {n : Nd} {a : NA} (hn : t[x]? = some n) (ha : ad[x]? = some a) {A' : Option Addr} {m c' : Nat} {L : List Int} (hm : L.length = m)
    (ho : w2.ownsRow B 3 1 (.slice A' m c') m (izs L)) (hA : blkOf A' = blkOf a.p.a2 ∨ ∃ k, blkOf A' = some k ∧ w1.heap.size ≤ k) (hg : w1.grownBy w2 (blkOf a.p.a2)) :
    MT (w2.setCell ⟨g, x * 10 + 9, none⟩ (.slice A' m c')) B g C (t.set x ⟨n.k, n.x, ⟨n.u.box, n.u.hash, L⟩⟩) (ad.set x ⟨a.l, ⟨a.p.a0, a.p.a1, A', a.p.c0, a.p.c1, c'⟩⟩) := by
  obtain ⟨cur, h1, h2⟩ := h.blk
  have hgne : some g ≠ blkOf a.p.a2 := fun e => by
    obtain ⟨cs, hcs⟩ := own_isT (h.nodes x n a hn ha).2.2.2 (by rw [ownBlock_slice]; exact e.symm)
    rw [h1] at hcs
    injection hcs with hcs
    injection hcs with _ hcs _
    revert hcs; decide
  have hg2 : w2.heap[g]? = some (.cells cur NdT (0, 0)) := block_grown h1 hg hgne
  have hbs := block_set hg2 (x * 10 + 9) (.slice A' m c')
  have hset := grown_setCell w2 g (x * 10 + 9) none (.slice A' m c')
  have hxs : x * 10 + 9 < cur.size := by rw [h2]; have := h.cap.1; omega
  -- what of a node stays as the late places are written
  have keep : ∀ (j : Nat) (q : Nd) (b : NA), j ≠ x → t[j]? = some q → ad[j]? = some b → NdO w2 B q b := fun j q b hj hq hb => by
    have hnb := h.nodes j q b hq hb
    cases hbk : blkOf a.p.a2 with
    | none =>
      rw [hbk] at hg
      exact hnb.on (below_of_grown hg (Nat.le_refl _) (fun k hk => by cases hk))
    | some k =>
      rw [hbk] at hg
      obtain ⟨cs, hcs⟩ := own_isT (h.nodes x n a hn ha).2.2.2 (by rw [ownBlock_slice]; exact hbk)
      exact hnb.late hcs hg (h.apart x j a b k (fun e => hj e.symm) ha hb hbk)
  have self : ∀ {e : TypeId} {v : Value} {l : Nat} {xs : List Value}, e = 5 → w1.ownsRow B e 1 v l xs → w2.ownsRow B e 1 v l xs := fun {e v l xs} he hv => by
    subst he
    cases hbk : blkOf a.p.a2 with
    | none =>
      rw [hbk] at hg
      exact own_on hv (below_of_grown hg (Nat.le_refl _) (fun k hk => by cases hk))
    | some k =>
      rw [hbk] at hg
      obtain ⟨cs, hcs⟩ := own_isT (h.nodes x n a hn ha).2.2.2 (by rw [ownBlock_slice]; exact hbk)
      exact own_otherT hv hcs (by decide) hg
  have cellg : ∀ o, w2.cell? ⟨g, o, none⟩ = w1.cell? ⟨g, o, none⟩ := fun o => World.cell?_of_block (a := ⟨g, o, none⟩) (hg2.trans h1.symm)
  refine ⟨by rw [List.length_set, List.length_set, h.len], h.base, ⟨_, hbs, by rw [Array.size_setIfInBounds]; exact h2⟩, by rw [List.length_set]; exact h.cap, fun j q b hq hb => ?_, fun j q b hq hb => ?_, fun i j b b' k hne hb hb' hk => ?_⟩
  · rcases set_get hq with ⟨rfl, rfl⟩ | ⟨h5, h6⟩
    · rcases set_get hb with ⟨-, rfl⟩ | ⟨h7, -⟩
      · intro c u hu
        have hc10 : c < 10 := by have := (List.getElem?_eq_some_iff.1 hu).1; rw [ndL_length] at this; exact this
        by_cases hc9 : c = 9
        · subst hc9
          refine cell_of hbs _ _ ?_
          rw [Array.getElem?_setIfInBounds, if_pos rfl, if_pos hxs, ← hu]
          subst hm
          rfl
        · rw [World.cell?_setCell_other _ _ _ _ (fun e => by simp only [Addr.mk.injEq] at e; omega), cellg]
          refine h.row j n a hn ha c u ?_
          rw [← hu]
          rcases c with _ | _ | _ | _ | _ | _ | _ | _ | _ | _ | c
          all_goals first | rfl | omega
      · exact absurd rfl h7
    · rcases set_get hb with ⟨h7, -⟩ | ⟨-, h8⟩
      · exact absurd h7 h5
      · intro c u hu
        have hc10 : c < 10 := by have := (List.getElem?_eq_some_iff.1 hu).1; rw [ndL_length] at this; exact this
        rw [World.cell?_setCell_other _ _ _ _ (fun e => by simp only [Addr.mk.injEq] at e; omega), cellg]
        exact h.row j q b h6 h8 c u hu
  · rcases set_get hq with ⟨rfl, rfl⟩ | ⟨h5, h6⟩
    · rcases set_get hb with ⟨-, rfl⟩ | ⟨h7, -⟩
      · have hna := h.nodes j n a hn ha
        have h9 : NdO w2 B ⟨n.k, n.x, ⟨n.u.box, n.u.hash, L⟩⟩ ⟨a.l, ⟨a.p.a0, a.p.a1, A', a.p.c0, a.p.c1, c'⟩⟩ := ⟨⟨self rfl hna.1.1, self rfl hna.1.2.1, self rfl hna.1.2.2.1, self rfl hna.1.2.2.2.1, self rfl hna.1.2.2.2.2⟩, self rfl hna.2.1, self rfl hna.2.2.1, by subst hm; exact ho⟩
        exact h9.store hg2 hset
      · exact absurd rfl h7
    · rcases set_get hb with ⟨h7, -⟩ | ⟨-, h8⟩
      · exact absurd h7 h5
      · exact (keep j q b h5 h6 h8).store hg2 hset
  · rcases set_get hb with ⟨rfl, rfl⟩ | ⟨h5, h6⟩
    · rcases set_get hb' with ⟨h7, -⟩ | ⟨h7, h8⟩
      · exact absurd h7.symm hne
      · rcases hA with hA | ⟨k', hA, hk'⟩
        · exact h.apart i j a b' k (fun e => h7 e.symm) ha h8 (hA ▸ hk)
        · intro he
          have := h.late_lt h8 k he
          have hkk : k' = k := by
            have hk2 : blkOf A' = some k := hk
            rw [hA] at hk2; exact Option.some.inj hk2
          omega
    · rcases set_get hb' with ⟨rfl, rfl⟩ | ⟨h7, h8⟩
      · intro hk'
        rcases hA with hA | ⟨k', hA, hk2⟩
        · have hk3 : blkOf A' = some k := hk'
          exact h.apart j i a b k (fun e => h5 e.symm) ha h6 (hA ▸ hk3) hk
        · have := h.late_lt h6 k hk
          have hkk : k' = k := by
            have hk3 : blkOf A' = some k := hk'
            rw [hA] at hk3; exact Option.some.inj hk3
          omega
      · exact h.apart i j b b' k hne h6 h8 hk
end Go.Proofs.Ythooibljnfnnhaa
end
section
namespace Go.Proofs.Ythooibljnfnnhaa
open Go Go.RowKit
set_option linter.unusedVariables false
set_option linter.unusedSimpArgs false
theorem ins_is {L : List Int} (hs : L.Pairwise (· < ·)) {v : Int} (hv : v ∉ L) : L.take (cutL L v) ++ v :: L.drop (cutL L v) = putZ L v := by
  obtain ⟨e1, e2⟩ := cut_take hs v
  rw [e1, e2]
  unfold putZ
  congr 2
  refine List.filter_congr fun u hu => ?_
  rw [decide_eq_decide]
  have : u ≠ v := fun e => hv (e ▸ hu)
  omega
/-- A node with one late place more. -/
def ltN (n : Nd) (i : Nat) : Nd := ⟨n.k, n.x, ⟨n.u.box, n.u.hash, putZ n.u.late (i : Int)⟩⟩
def spN (t : List Nd) (i x : Nat) : Nd := if (nAt t x).k = 2 then ltN (nAt t x) i else nAt t x
def lateT (t : List Nd) (i : Nat) : List Nd := (List.range t.length).map fun x => if abv x i then spN t i x else nAt t x
theorem lateT_length (t : List Nd) (i : Nat) : (lateT t i).length = t.length := by unfold lateT; simp
theorem lateT_at {t : List Nd} {i x : Nat} (h : x < t.length) : nAt (lateT t i) x = if abv x i then spN t i x else nAt t x := by
  conv => lhs; unfold nAt lateT
  rw [List.getD_eq_getElem?_getD, List.getElem?_map, List.getElem?_range h]
  rfl
theorem lateT_of {t tt : List Nd} {K i : Nat} (hz : Sz t K) (hi : i < 2 ^ K) (hl : tt.length = t.length) (h1 : ∀ k, k < K → nAt tt (upN i k) = spN t i (upN i k)) (h2 : ∀ x, (∀ k, k < K → x ≠ upN i k) → nAt tt x = nAt t x) : tt = lateT t i := by
  refine nAt_ext (by rw [lateT_length, hl]) fun x hx => ?_
  rw [hl] at hx
  rw [lateT_at hx]
  by_cases ha : abv x i
  · rw [if_pos ha]
    obtain ⟨k, hk, rfl⟩ := (upN_abv hz hi hx).1 ha
    exact h1 k hk
  · rw [if_neg ha]
    exact h2 x fun k hk e => ha ((upN_abv hz hi hx).2 ⟨k, hk, e⟩)
/-- What is asked of the late places that one more comes to. -/
def LtOk (t : List Nd) (i : Nat) : Prop := ∀ x, (nAt t x).k = 2 → abv x i → (nAt t x).u.late.Pairwise (· < ·) ∧ (i : Int) ∉ (nAt t x).u.late ∧ (nAt t x).u.late.length ≤ 100000
def PaOk (PA : Option Addr) (ad : List NA) : Prop := ∀ (y : Nat) (b : NA) (k : Nat), ad[y]? = some b → blkOf b.p.a2 = some k → blkOf PA ≠ some k
set_option maxRecDepth 100000 in
set_option maxHeartbeats 8000000 in
theorem addLate_e (B g C : Nat) (t : List Nd) (ad : List NA) (i K : Nat) (w : World) (hM : MT w B g C t ad) (hB : B ≤ w.heap.size) (hz : Sz t K) (hi : i < 2 ^ K) (hlo : LtOk t i) :
    Calls Try.prog 50 #[.slice (some ⟨g, 0, none⟩) t.length C, .int .i64 (i : Int)] w fun e w' => e = .returned (.tuple #[]) ∧ (∃ ad', MT w' B g C (lateT t i) ad') ∧ Below B w w' := by
  have HBL : Hid (∀ tt : List Nd, tt.length = t.length → (∀ k, k < K → nAt tt (upN i k) = spN t i (upN i k)) → (∀ x, (∀ k, k < K → x ≠ upN i k) → nAt tt x = nAt t x) → tt = lateT t i) := hid fun tt => lateT_of hz hi
  have HUP : Hid (∀ k, k < K → upN i k < t.length ∧ abv (upN i k) i) := hid fun k hk => ⟨upN_lt hz hi hk, (upN_abv hz hi (upN_lt hz hi hk)).2 ⟨k, hk, rfl⟩⟩
  have hp := pow_le16 hz.2
  have h16 := hz.2
  have hlen : t.length ≤ 131071 := by rw [hz.1]; omega
  obtain ⟨m, hm⟩ : ∃ m, m = 2 * i := ⟨_, rfl⟩
  have HPa := hid fun W => path_call hm hi h16 W
  have HLv := hid fun W => leaves_call (A := some ⟨g, 0, none⟩) (c := C) hz W
  have hw2 : wrap64 (2 * (i : Int)) = (m : Int) := (wrap64_in (by omega) (by omega)).trans (by omega)
  obtain ⟨n, hn⟩ : ∃ n, n = 2 ^ K := ⟨_, rfl⟩
  rw [← hn] at HPa HLv
  have HM := hid hM; have HBB := hid hB; have HLN := hid hlen; have HLO := hid hlo
  clear hM hB hz hi hp hm hn hlen hlo
  go_enter Try.func50, Try.ntmps50
  go_wp2_with fail
  refine (HLv.out _).mono ?_
  rintro e w1 ⟨rfl, rfl⟩
  go_wp2_with fail
  refine (HPa.out _).mono ?_
  rintro e w2 ⟨v, rfl, ho, hb⟩
  obtain ⟨PA, pc, rfl, -⟩ := own_sl ho
  have HO := hid ho
  have HM2 := hid (HM.out.on hb)
  have HB2 : Hid (Below B w1 w2) := hid (hb.mono HBB.out)
  have HPK : Hid (PaOk PA ad) := hid fun y b k hy hk he => by
    have h1 := HM.out.late_lt hy k hk
    have h2 := (own_blk ho k he).1
    omega
  clear hb ho HPa HLv hw2 HM
  have hpl := pathL_length i 0 K
  rw [hpl]
  go_wp2
  go_loopg [15] K (fun r ix wr => ∃ k : Nat, k + r = K ∧ ix = .int .i64 (k : Int) ∧ OwnI wr w1.heap.size (.slice PA K pc) (pathL i 0 K) ∧ (∃ tt ad', tt.length = t.length ∧ (∀ j, j < k → nAt tt (upN i j) = spN t i (upN i j)) ∧ (∀ x, (∀ j, j < k → x ≠ upN i j) → nAt tt x = nAt t x) ∧ MT wr B g C tt ad' ∧ PaOk PA ad') ∧ Below B w1 wr)
  case atStart => exact ⟨0, by omega, rfl, by have h := HO.out; rw [hpl] at h; exact h, ⟨t, _, rfl, fun j hj => by omega, fun x _ => rfl, HM2.out, HPK.out⟩, HB2.out⟩
  case round =>
    clear HM2 HB2 HO HPK
    obtain ⟨k, hk, rfl, ho, ⟨tt, ad', htl, ht1, ht2, hmt, hpk⟩, hb⟩ := hrel
    have HK := hid hk; have HO := hid ho; have HT1 := hid ht1; have HT2 := hid ht2; have HMT := hid hmt; have HTL := hid htl; have HB := hid hb; have HPK := hid hpk
    have hw1 : wrap64 ((k : Int) + 1) = (k : Int) + 1 := wrap64_in (by omega) (by omega)
    by_cases hlt : k < K
    · have ho2 : OwnI wr w1.heap.size (.slice PA (pathL i 0 K).length pc) (pathL i 0 K) := by rw [hpl]; exact ho
      obtain ⟨b1, o1, rfl, hb1, hc1⟩ := (Lie.of_own ho2).numI (k := k) (by rw [hpl]; exact hlt)
      rw [path_get i K k hlt] at hc1
      obtain ⟨hxl, hxa⟩ := HUP.out k hlt
      have hx : (k : Int) < (K : Int) := by omega
      have h0 : (0 : Int) ≤ (k : Int) := by omega
      have HLT := hid hlt
      have hxn : nAt tt (upN i k) = nAt t (upN i k) := ht2 _ fun j hj => upN_ne (by omega)
      have hlok := HLO.out (upN i k)
      have HNE : Hid (∀ j, j < k → upN i j ≠ upN i k) := hid fun j hj => upN_ne (by omega)
      obtain ⟨x, hxe⟩ : ∃ x, x = upN i k := ⟨_, rfl⟩
      rw [← hxe] at hc1 hxl hxa hxn hlok HNE
      have HX := hid hxe
      have hxi : (x : Int) < (t.length : Int) := by omega
      have hx0 : (0 : Int) ≤ (x : Int) := by omega
      have hxt : x < tt.length := by rw [htl]; exact hxl
      obtain ⟨q, a, hq, ha, hqn, hno, hr⟩ := hmt.at_ hxt
      have hqt : q = nAt t x := hqn.trans hxn
      have hkc := kind_at hr
      have hlc : wr.cell? ⟨g, x * 10 + 7 + 2, none⟩ = some (.slice a.p.a2 q.u.late.length a.p.c2) := late_at hr
      by_cases hk2 : q.k = 2
      · obtain ⟨hs1, hs2, hs3⟩ := hlok (by rw [← hqt]; exact hk2) hxa
        rw [← hqt] at hs1 hs2 hs3
        have hki : ((q.k : Int) == 2) = true := by rw [beq_iff_eq]; omega
        have HBS : Hid (∀ W, Below wr.heap.size wr W → Calls Try.prog 73 #[.slice a.p.a2 q.u.late.length a.p.c2, .int .i64 (i : Int)] W fun e w' => e = .returned (.tuple #[.int .i64 (cutL q.u.late (i : Int) : Int), .bool false]) ∧ Below W.heap.size W w') := hid fun W hb => by
          have h := BS_e a.p.a2 q.u.late a.p.c2 (i : Int) W wr.heap.size ((Lie.of_own hno.2.2.2).below hb) hs1 (by omega)
          rw [decide_eq_false hs2] at h
          exact h
        have HIN : Hid (∀ (W1 : World) (vb : Nat), Below wr.heap.size wr W1 → W1.heap[vb]? = some (.cells #[.int .i64 (i : Int)] 3 (0, 0)) → wr.heap.size ≤ vb → Calls Try.prog 75 #[.slice a.p.a2 q.u.late.length a.p.c2, .int .i64 (cutL q.u.late (i : Int) : Int), .slice (some ⟨vb, 0, none⟩) 1 1] W1 fun e w' => ∃ A' c', e = .returned (.slice A' (q.u.late.length + 1) c') ∧
            ((∃ u, w'.cell? ⟨g, x * 10 + 7 + 2, none⟩ = some u) ∧ w'.frozen? ⟨g, x * 10 + 7 + 2, none⟩ = false) ∧ (∃ ad2, MT (w'.setCell ⟨g, x * 10 + 7 + 2, none⟩ (.slice A' (q.u.late.length + 1) c')) B g C (tt.set x (ltN q i)) ad2 ∧ PaOk (some ⟨b1, o1, none⟩) ad2) ∧ OwnI (w'.setCell ⟨g, x * 10 + 7 + 2, none⟩ (.slice A' (q.u.late.length + 1) c')) w1.heap.size (.slice (some ⟨b1, o1, none⟩) K pc) (pathL i 0 K) ∧ Below B w1 (w'.setCell ⟨g, x * 10 + 7 + 2, none⟩ (.slice A' (q.u.late.length + 1) c'))) := hid fun W1 vb hbW hvb hvg => by
          have hm1 := hmt.on hbW
          have hno1 := hno.on hbW
          have hbB : B ≤ wr.heap.size := Nat.le_trans HBB.out hb.size
          have hI := Ins_e a.p.a2 q.u.late a.p.c2 (cutL q.u.late (i : Int)) (i : Int) vb B W1 hno1.2.2.2 (cutL_le _ _) (by omega) (Nat.le_trans hbB hbW.size) hvb (fun e => by have := hmt.late_lt ha vb e; omega)
          refine hI.mono fun e w' ⟨A', c', he, ho', hA, hg⟩ => ⟨A', c', he, ?_⟩
          rw [ins_is hs1 hs2] at ho'
          have hpl2 : (putZ q.u.late (i : Int)).length = q.u.late.length + 1 := by
            rw [← ins_is hs1 hs2, List.length_append, List.length_take, List.length_cons, List.length_drop]; have := cutL_le q.u.late (i : Int); omega
          have hML := hm1.late hxt hq ha hpl2 ho' hA hg
          have hro : ∀ kk, blkOf a.p.a2 = some kk → B ≤ kk := fun kk hkk => (own_blk hno1.2.2.2 kk hkk).1
          obtain ⟨cur, hcur, hcs⟩ := hm1.blk
          have hgne : some g ≠ blkOf a.p.a2 := fun e => by
            obtain ⟨cs, hcs⟩ := own_isT hno1.2.2.2 (by rw [ownBlock_slice]; exact e.symm)
            rw [hcur] at hcs
            injection hcs with hcs
            injection hcs with _ hcs _
            revert hcs; decide
          have hg2 := block_grown hcur hg hgne
          have hxs : x * 10 + 9 < cur.size := by rw [hcs]; have := hm1.cap.1; omega
          have hoP : OwnI w' w1.heap.size (.slice (some ⟨b1, o1, none⟩) K pc) (pathL i 0 K) := by
            have hoW := own_on ho hbW
            refine World.ownsRow.kept hoW hg (.inr fun e => ?_)
            exact hpk x a b1 ha e.symm rfl
          refine ⟨⟨⟨_, cell_of hg2 (x * 10 + 9) (cur[x * 10 + 9]'hxs) (Array.getElem?_eq_getElem _)⟩, frozen_of_row _ _ _ _ _ hg2⟩, ⟨_, hML, fun y b kk hy hkk => ?_⟩, own_otherT hoP hg2 (by decide) (grown_setCell _ _ _ _ _), ?_⟩
          · rcases set_get hy with ⟨rfl, rfl⟩ | ⟨h5, h6⟩
            · rcases hA with hA | ⟨k', hA, hk'⟩
              · exact hpk y a kk ha (hA ▸ hkk)
              · intro he2
                have hkk2 : blkOf A' = some kk := hkk
                rw [hA] at hkk2
                have h1 := (own_blk ho2 kk he2).2
                have h2 := Option.some.inj hkk2
                have := hbW.size
                omega
            · exact hpk y b kk h6 hkk
          · have hb1 : Below B w1 w' := (hb.trans (hbW.mono hbB)).grown hg (Nat.le_trans hbB hbW.size) (fun kk hkk => hro kk hkk)
            exact hb1.setCell hmt.base _
        have HQS : Hid (spN t i x = ltN q i) := hid (by unfold spN; rw [← hqt, if_pos hk2])
        have HXT := hid hxt
        obtain ⟨L, hL⟩ : ∃ L, L = q.u.late.length := ⟨_, rfl⟩
        obtain ⟨LA, hLA⟩ : ∃ L, L = a.p.a2 := ⟨_, rfl⟩
        obtain ⟨LC, hLC⟩ : ∃ L, L = a.p.c2 := ⟨_, rfl⟩
        obtain ⟨ct, hct⟩ : ∃ L, L = cutL q.u.late (i : Int) := ⟨_, rfl⟩
        rw [← hL, ← hLA, ← hLC] at hlc HBS HIN
        rw [← hct] at HBS HIN
        have hgl := hmt.lt
        have HGL := hid hgl
        have HLC := hid hlc
        clear hk ho ho2 ht1 ht2 hmt htl hb hlt hxe hxl hxt hq ha hqn hno hr hqt hk2 hs1 hs2 hs3 hlok hxa hxn hpk hL hLA hLC hct HMT HO hgl hb1 HPK
        go_wp2_with fail
        refine (HBS.out _ (Below.refl _ _)).mono ?_
        rintro e w3 ⟨rfl, hb⟩
        have HB3 := hid hb
        have hlc3 : w3.cell? ⟨g, x * 10 + 7 + 2, none⟩ = some (.slice LA L LC) := (hb.cell (p := ⟨g, x * 10 + 7 + 2, none⟩) HGL.out).trans HLC.out
        have HIN3 := hid (HIN.out (w3.alloc (.cells #[.int .i64 (i : Int)] 3)) w3.heap.size (hb.alloc hb.size _) (heap_alloc_new w3 _) hb.size)
        clear hb HBS hkc hlc hki HIN hc1
        go_wp2_with fail
        refine HIN3.out.mono ?_
        rintro e w4 ⟨A', c', rfl, ⟨⟨u, hu⟩, hfz⟩, ⟨ad2, hm2, hp2⟩, ho4, hb4⟩
        have HM4 := hid hm2; have HP4 := hid hp2; have HO4 := hid ho4; have HB4 := hid hb4
        clear hm2 hp2 ho4 hb4 HIN3 hlc3 HB3 HLC
        go_wp2
        have hk := HK.out; have hlt := HLT.out
        go_roundg (K - (k + 1))
        case measure => clear hw1; omega
        case rel =>
          refine ⟨k + 1, by clear hw1; omega, by first | rfl | (rw [hw1]; rfl), HO4.out, ⟨_, _, by rw [List.length_set]; exact HTL.out, fun j hj => ?_, fun y hy => ?_, HM4.out, HP4.out⟩, HB4.out⟩
          · rw [nAt_set HXT.out]
            rcases Nat.lt_or_ge j k with h1 | h1
            · rw [if_neg (HNE.out j h1)]; exact HT1.out j h1
            · obtain rfl : j = k := by clear hw1; omega
              rw [if_pos HX.out.symm, ← HX.out]; exact HQS.out.symm
          · rw [nAt_set HXT.out, if_neg (by rw [HX.out]; exact hy k (by omega))]
            exact HT2.out y fun j hj => hy j (by omega)
      · have hki : ((q.k : Int) == 2) = false := by rw [beq_eq_false_iff_ne]; omega
        have HQS : Hid (nAt tt x = spN t i x) := hid (by unfold spN; rw [← hqt, if_neg hk2, ← hqn])
        clear hk ho ho2 ht1 ht2 hmt htl hb hlt hxe hxl hxt hq ha hqn hno hr hqt hk2 hlok hxa hxn hpk hlc hb1
        go_wp2
        have hk := HK.out; have hlt := HLT.out
        go_roundg (K - (k + 1))
        case measure => clear hw1; omega
        case rel =>
          refine ⟨k + 1, by clear hw1; omega, by first | rfl | (rw [hw1]; rfl), HO.out, ⟨_, _, HTL.out, fun j hj => ?_, fun y hy => HT2.out y fun j hj => hy j (by omega), HMT.out, HPK.out⟩, HB.out⟩
          rcases Nat.lt_or_ge j k with h1 | h1
          · exact HT1.out j h1
          · obtain rfl : j = k := by clear hw1; omega
            rw [← HX.out]; exact HQS.out
    · have hge : ¬ (k : Int) < (K : Int) := by omega
      obtain rfl : k = K := by have := HK.out; omega
      have hbl := HBL.out tt htl ht1 ht2
      rw [hbl] at HMT
      clear hk ho ht1 ht2 hmt htl hb hlt hbl hpk
      go_wp2
      go_end0
      exact ⟨rfl, ⟨_, HMT.out⟩, HB.out⟩
end Go.Proofs.Ythooibljnfnnhaa
end
section
namespace Go.Proofs.Ythooibljnfnnhaa
open Go Go.RowKit
set_option linter.unusedVariables false
set_option linter.unusedSimpArgs false
set_option maxRecDepth 100000 in
set_option maxHeartbeats 4000000 in
theorem tree_right (A : Option Addr) (t : List Nd) (ad : List NA) (c : Nat) (w : World) (hA : TrQ w w.heap.size A c t ad) (hm : TrM t) : Calls Try.prog 12 #[.slice A t.length c] w (RetB w (rgt t)) := by
  have HLv := hid (leaves_e A t.length c w (by have := hm.1; omega))
  rcases (@lvs_cases t.length) with ⟨K, hK, hsz, hlv⟩ | ⟨hlv, hno⟩
  · have hz : Sz t K := ⟨hsz, hK⟩
    have hpos := Nat.two_pow_pos K
    have HAR : Hid (∀ W, Below w.heap.size w W → Calls Try.prog 39 #[.slice A t.length c] W (RetB W (decide (AreR t)))) := hid fun W hb => areRight_e A t ad c W (hA.tr.up hb) hm
    have HEn : Hid (∀ W, Calls Try.prog 41 #[.int .i64 ((2 ^ K : Nat) : Int)] W (RetI W (nd (endQ K) (endL K) : Int))) := hid fun W => end_e K W hK
    have hq : endQ K < 2 ^ (K - endL K) := by
      unfold endQ endL
      by_cases h0 : K = 0
      · rw [if_pos h0, h0]; decide
      · rw [if_neg h0, show K - (K - 1) = 1 by omega]; decide
    have HHM : Hid (∀ W, Below w.heap.size w W → Calls Try.prog 40 #[.slice A t.length c, .int .i64 (nd (endQ K) (endL K) : Int)] W (RetB W (hasM t (endL K) (endQ K)))) := hid fun W hb => hasMember_e A t ad c K hz (endL K) (endQ K) W (by unfold endL; omega) hq (hA.tr.up hb)
    have HRo := hid fun W => Rootp_e K W hK
    have HIL : Hid (AreR t → ∀ W, Below w.heap.size w W → Calls Try.prog 42 #[.slice A t.length c, .int .i64 (nd 0 K : Int), .slice none 0 0] W (RetB W (lateR t K 0 []))) := hid fun har W hb => isLateRight_e A t ad c K hz har K 0 [] none 0 W (Nat.le_refl _) (Nat.two_pow_pos _) (hA.up hb) Lie.nil List.Pairwise.nil (by decide) (by decide) (by decide)
    have HRT : Hid (rgt t = true ↔ AreR t ∧ hasM t (endL K) (endQ K) = true ∧ lateR t K 0 [] = true) := hid ((rgt_sz hz).trans (rt_iff hz))
    obtain ⟨r, hr⟩ : ∃ r, r = rgt t := ⟨_, rfl⟩
    rw [← hr] at HRT ⊢
    obtain ⟨p1, hp1⟩ : ∃ p, p = decide (AreR t) := ⟨_, rfl⟩
    obtain ⟨p2, hp2⟩ : ∃ p, p = hasM t (endL K) (endQ K) := ⟨_, rfl⟩
    obtain ⟨p3, hp3⟩ : ∃ p, p = lateR t K 0 [] := ⟨_, rfl⟩
    have HP1 : Hid (p1 = true ↔ AreR t) := hid (by rw [hp1, decide_eq_true_iff])
    rw [← hp1] at HAR
    rw [← hp2] at HHM HRT
    rw [← hp3] at HIL HRT
    rw [hlv] at HLv
    obtain ⟨n, hn⟩ : ∃ n, n = 2 ^ K := ⟨_, rfl⟩
    obtain ⟨x, hx⟩ : ∃ x, x = nd (endQ K) (endL K) := ⟨_, rfl⟩
    obtain ⟨y, hy⟩ : ∃ x, x = nd 0 K := ⟨_, rfl⟩
    rw [← hn] at HLv HEn HRo hpos
    rw [← hx] at HEn HHM
    rw [← hy] at HRo HIL
    have hni : (0 : Int) < (n : Int) := by omega
    clear hr hp1 hp2 hp3 hn hx hy hz hsz hlv hK hA hm hpos hq
    go_enter Try.func12, Try.ntmps12
    go_wp2_with fail
    refine HLv.out.mono ?_
    rintro e w1 ⟨rfl, rfl⟩
    clear HLv
    go_wp2_with fail
    refine (HAR.out _ (Below.refl _ _)).mono ?_
    rintro e w2 ⟨rfl, hb⟩
    have HB := hid hb
    clear hb HAR
    cases p1 with
    | false =>
      have HR : Hid (r = false) := hid (by
        rw [Bool.eq_false_iff]; intro h
        have := HP1.out.2 (HRT.out.1 h).1
        cases this)
      go_wp2
      go_ret
      exact ⟨by rw [HR.out]; rfl, HB.out⟩
    | true =>
      have HAr := hid (HP1.out.1 rfl)
      go_wp2_with fail
      refine (HEn.out _).mono ?_
      rintro e w3 ⟨rfl, hb⟩
      have HB3 := hid (HB.out.trans (hb.mono HB.out.size))
      clear hb HB HEn
      go_wp2_with fail
      refine (HHM.out _ HB3.out).mono ?_
      rintro e w4 ⟨rfl, hb⟩
      have HB4 := hid (HB3.out.trans (hb.mono HB3.out.size))
      clear hb HB3 HHM
      cases p2 with
      | false =>
        have HR : Hid (r = false) := hid (by
          rw [Bool.eq_false_iff]; intro h
          have := (HRT.out.1 h).2.1
          cases this)
        go_wp2
        go_ret
        exact ⟨by rw [HR.out]; rfl, HB4.out⟩
      | true =>
        go_wp2_with fail
        refine (HRo.out _).mono ?_
        rintro e w5 ⟨rfl, hb⟩
        have HB5 := hid (HB4.out.trans (hb.mono HB4.out.size))
        clear hb HB4 HRo
        go_wp2_with fail
        refine (HIL.out HAr.out _ HB5.out).mono ?_
        rintro e w6 ⟨rfl, hb⟩
        have HB6 := hid (HB5.out.trans (hb.mono HB5.out.size))
        clear hb HB5 HIL
        have HR : Hid (r = p3) := hid (by
          cases p3 with
          | true => exact HRT.out.2 ⟨HAr.out, by simp, by simp⟩
          | false => rw [Bool.eq_false_iff]; intro h; have h2 := (HRT.out.1 h).2.2; simp at h2)
        go_wp2
        go_ret
        exact ⟨by rw [HR.out]; rfl, HB6.out⟩
  · have HR : Hid (rgt t = false) := hid (rgt_no fun K h => hno K h.size.2 h.size.1.symm)
    rw [hlv] at HLv
    clear hA hm hlv hno
    go_enter Try.func12, Try.ntmps12
    go_wp2_with fail
    refine HLv.out.mono ?_
    rintro e w1 ⟨rfl, rfl⟩
    clear HLv
    go_wp2
    go_ret
    exact ⟨by rw [HR.out]; rfl, Below.refl _ _⟩
theorem ownL_base {w w' w'' : World} {v : Value} {xs : List Nat} (h : OwnI w'' w'.heap.size v xs) (hb : Below w.heap.size w w') : OwnI w'' w.heap.size v xs := own_base0 h hb.size
theorem lit_own (w : World) (x : Nat) (z : Int) (h : z = (x : Int)) : OwnI (w.alloc (.cells #[.int .i64 z] 3)) w.heap.size (.slice (some ⟨w.heap.size, 0, none⟩) 1 1) [x] := by
  subst h
  exact World.ownsRow_lit w #[.int .i64 (x : Int)] 1 (Nat.le_refl _) (by decide) rfl
set_option maxRecDepth 100000 in
set_option maxHeartbeats 4000000 in
theorem members_e (A : Option Addr) (t : List Nd) (ad : List NA) (c K : Nat) (hz : Sz t K) (l : Nat) : ∀ (q : Nat) (w : World), l ≤ K → q < 2 ^ (K - l) → TrIn w w.heap.size A t ad →
    Calls Try.prog 44 #[.slice A t.length c, .int .i64 (nd q l : Int)] w (OwnLn w (memN t l q)) := by
  induction l with
  | zero =>
    intro q w hl hq hA
    have HL := hid (isLeafs_0 q w)
    have hlt := sz_lt hz hl hq
    obtain ⟨b, o, n, a, rfl, hbl, hn, hnn, -, hr⟩ := hA.at_ hlt
    have hkc := kind_at hr
    have HM : Hid (memN t 0 q = if n.k = 0 then [] else [q]) := hid (by rw [memN, ← hnn])
    obtain ⟨x, hx⟩ : ∃ x, x = nd q 0 := ⟨_, rfl⟩
    have hx2 : x = 2 * q := by rw [hx, nd_zero]
    rw [← hx] at HL hlt hkc ⊢
    have hxi : (x : Int) < (t.length : Int) := by omega
    have h0 : (0 : Int) ≤ (x : Int) := by omega
    have htl := hz.1
    have hpw := pow_le16 hz.2
    have hq1 : Int.tdiv (x : Int) 2 = (q : Int) := by rw [Int.tdiv_eq_ediv_of_nonneg (by omega)]; omega
    have hq2 : (x : Int) / 2 = (q : Int) := by omega
    have hwq : wrap64 (q : Int) = (q : Int) := wrap64_in (by omega) (by omega)
    clear hn hnn hr hx hx2 hlt hA hz hl hq htl hpw
    by_cases hk0 : n.k = 0
    · have hki : ((n.k : Int) == 0) = true := by rw [beq_iff_eq]; omega
      have HR : Hid (memN t 0 q = []) := hid (by rw [HM.out, if_pos hk0])
      clear HM hk0
      go_enter Try.func44, Try.ntmps44
      go_wp2_with fail
      refine HL.out.mono ?_
      rintro e w1 ⟨rfl, rfl⟩
      clear HL
      go_wp2
      go_ret
      exact ⟨_, rfl, by rw [HR.out]; exact owni_nil _ _, Below.refl _ _⟩
    · have hki : ((n.k : Int) == 0) = false := by rw [beq_eq_false_iff_ne]; omega
      have HR : Hid (memN t 0 q = [q]) := hid (by rw [HM.out, if_neg hk0])
      clear HM hk0
      go_enter Try.func44, Try.ntmps44
      go_wp2_with fail
      refine HL.out.mono ?_
      rintro e w1 ⟨rfl, rfl⟩
      clear HL
      go_wp2
      go_ret
      exact ⟨_, rfl, by rw [HR.out]; exact lit_own _ q _ (by first | rfl | assumption), (Below.refl _ _).alloc (Nat.le_refl _) _⟩
  | succ l ih =>
    intro q w hl hq hA
    obtain ⟨q1, q2⟩ := half hl hq
    have hq16 := q16 hl hz.2 hq
    have HS := hid fun W => isLeafs_s q l W
    have HLe := hid fun W => Left_e q l W (by have := hz.2; omega) hq16
    have HRi := hid fun W => Right_e q l W (by have := hz.2; omega) hq16
    have HI1 : Hid (∀ W, Below w.heap.size w W → Calls Try.prog 44 #[.slice A t.length c, .int .i64 (nd (2 * q) l : Int)] W (OwnLn W (memN t l (2 * q)))) := hid fun W hb => ih (2 * q) W (by omega) q1 (hA.up hb)
    have HI2 : Hid (∀ W, Below w.heap.size w W → Calls Try.prog 44 #[.slice A t.length c, .int .i64 (nd (2 * q + 1) l : Int)] W (OwnLn W (memN t l (2 * q + 1)))) := hid fun W hb => ih (2 * q + 1) W (by omega) q2 (hA.up hb)
    have HM : Hid (memN t (l + 1) q = memN t l (2 * q) ++ memN t l (2 * q + 1)) := hid (by rw [memN])
    have hpw : 2 ^ l ≤ 65536 := pow_le16 (show l ≤ 16 by have := hz.2; omega)
    have HN1 : Hid ((memN t l (2 * q)).length ≤ 65536) := hid (Nat.le_trans (memN_len _ _ _) hpw)
    have HN2 : Hid ((memN t l (2 * q + 1)).length ≤ 65536) := hid (Nat.le_trans (memN_len _ _ _) hpw)
    obtain ⟨x, hx⟩ : ∃ x, x = nd q (l + 1) := ⟨_, rfl⟩
    obtain ⟨y, hy⟩ : ∃ y, y = nd (2 * q) l := ⟨_, rfl⟩
    obtain ⟨z, hz2⟩ : ∃ z, z = nd (2 * q + 1) l := ⟨_, rfl⟩
    obtain ⟨p, hp⟩ : ∃ p, p = memN t l (2 * q) := ⟨_, rfl⟩
    obtain ⟨p2, hp2⟩ : ∃ p, p = memN t l (2 * q + 1) := ⟨_, rfl⟩
    rw [← hx] at HS HLe HRi ⊢
    rw [← hy] at HLe HI1
    rw [← hz2] at HRi HI2
    rw [← hp] at HI1 HM HN1
    rw [← hp2] at HI2 HM HN2
    clear hx hy hz2 hp hp2 hA hz hl hq q1 q2 hq16 ih hpw
    go_enter Try.func44, Try.ntmps44
    go_wp2_with fail
    refine (HS.out _).mono ?_
    rintro e w1 ⟨rfl, rfl⟩
    clear HS
    go_wp2_with fail
    refine (HLe.out _).mono ?_
    rintro e w2 ⟨rfl, hb⟩
    have HB := hid hb
    clear hb HLe
    go_wp2_with fail
    refine (HI1.out _ HB.out).mono ?_
    rintro e w3 ⟨v1, rfl, ho, hb⟩
    have HB3 := hid (HB.out.trans (hb.mono HB.out.size))
    have HO := hid (ownL_base ho HB.out)
    clear hb HI1 HB ho
    go_wp2_with fail
    refine (HRi.out _).mono ?_
    rintro e w4 ⟨rfl, hb⟩
    have HB4 := hid (HB3.out.trans (hb.mono HB3.out.size))
    have HO4 := hid (own_onI HO.out hb)
    clear hb HRi HB3 HO
    go_wp2_with fail
    refine (HI2.out _ HB4.out).mono ?_
    rintro e w5 ⟨v2, rfl, ho, hb⟩
    have HB5 := hid (HB4.out.trans (hb.mono HB4.out.size))
    have HO5 := hid (own_onI HO4.out hb)
    obtain ⟨A2, c2, rfl, hs⟩ := own_sl ho
    have HL2 := hid hs.lie
    clear hb HI2 HB4 HO4 ho hs
    go_wp2_with (at_builtin; refine wpList_append_lie rfl _ _ 30 rfl w1.heap.size 3 (.int .i64 0) 8 Try.underlying30 infoI64 rfl rfl HO5.out (ivs_length _) rfl HL2.out (ivs_one _) ?d1 ?d2 ?d3 ?_)
    case d1 => have := HN1.out; have := HN2.out; unfold maxLen; omega
    case d2 => have := HN1.out; have := HN2.out; omega
    case d3 => exact HB5.out.size
    intro v6 w6 hown6 hg6 _
    have HO6 : Hid (OwnI w6 w1.heap.size v6 (memN t (l + 1) q)) := hid (by rw [HM.out]; unfold OwnI; rw [List.length_append, ivs_append]; exact hown6)
    have HB6 : Hid (Below w1.heap.size w1 w6) := hid (HB5.out.grown hg6 HB5.out.size (own_lt HO5.out))
    clear hown6 hg6 HO5 HB5 HL2
    go_wp2
    go_ret
    exact ⟨_, rfl, HO6.out, HB6.out⟩
/-- The members of a tree, if it may be. -/
noncomputable def memR (t : List Nd) : List Nat := if rgt t = true then memT t ((t.length + 1) / 2) else []
theorem rt_half {t : List Nd} {K : Nat} (h : Sz t K) : (t.length + 1) / 2 = 2 ^ K := by rw [h.1]; have := Nat.two_pow_pos K; omega
theorem rt_kinds {t : List Nd} {K : Nat} (h : Rt t K) : ∀ i, i < 2 ^ K → (nAt t (2 * i)).k = 0 ∨ (nAt t (2 * i)).k = 1 := fun i hi => leaf_kind h.zero hi
set_option maxHeartbeats 2000000 in
theorem tree_members (A : Option Addr) (t : List Nd) (ad : List NA) (c : Nat) (w : World) (hA : TrQ w w.heap.size A c t ad) (hm : TrM t) : Calls Try.prog 13 #[.slice A t.length c] w (OwnLn w (memR t)) := by
  have HR := hid (tree_right A t ad c w hA hm)
  by_cases hr : rgt t = true
  · obtain ⟨K, hK⟩ := rgt_rt hr
    have HLv : Hid (∀ W, Calls Try.prog 38 #[.slice A t.length c] W fun e w' => e = .returned (.int .i64 ((2 ^ K : Nat) : Int)) ∧ w' = W) := hid fun W => by
      have h := leaves_e A t.length c W (by have := hm.1; omega)
      unfold lvsN at h
      rw [lvs_sz hK.size] at h
      exact h
    have HRo := hid fun W => Rootp_e K W hK.size.2
    have HMe : Hid (∀ W, Below w.heap.size w W → Calls Try.prog 44 #[.slice A t.length c, .int .i64 (nd 0 K : Int)] W (OwnLn W (memR t))) := hid fun W hb => by
      have h := members_e A t ad c K hK.size K 0 W (Nat.le_refl _) (Nat.two_pow_pos _) (hA.tr.up hb)
      rw [memN_all (rt_kinds hK)] at h
      unfold memR
      rw [if_pos hr, rt_half hK.size]
      exact h
    rw [hr] at HR
    obtain ⟨n, hn⟩ : ∃ n, n = 2 ^ K := ⟨_, rfl⟩
    obtain ⟨x, hx⟩ : ∃ n, n = nd 0 K := ⟨_, rfl⟩
    rw [← hn] at HLv HRo
    rw [← hx] at HRo HMe
    clear hr hK hA hm hn hx
    go_enter Try.func13, Try.ntmps13
    go_wp2_with fail
    refine HR.out.mono ?_
    rintro e w1 ⟨rfl, hb⟩
    have HB := hid hb
    clear hb HR
    go_wp2_with fail
    refine (HLv.out _).mono ?_
    rintro e w2 ⟨rfl, rfl⟩
    go_wp2_with fail
    refine (HRo.out _).mono ?_
    rintro e w3 ⟨rfl, hb⟩
    have HB3 := hid (HB.out.trans (hb.mono HB.out.size))
    clear hb HB HRo
    go_wp2_with fail
    refine (HMe.out _ HB3.out).mono ?_
    rintro e w4 ⟨v, rfl, ho, hb⟩
    have HB4 := hid (HB3.out.trans (hb.mono HB3.out.size))
    have HO := hid (ownL_base ho HB3.out)
    clear hb HB3 ho HMe
    go_wp2
    go_ret
    exact ⟨_, rfl, HO.out, HB4.out⟩
  · have hf : rgt t = false := by simpa using hr
    have HE : Hid (memR t = []) := hid (by unfold memR; rw [if_neg hr])
    rw [hf] at HR
    clear hr hf hA hm
    go_enter Try.func13, Try.ntmps13
    go_wp2_with fail
    refine HR.out.mono ?_
    rintro e w1 ⟨rfl, hb⟩
    have HB := hid hb
    clear hb HR
    go_wp2
    go_ret
    exact ⟨_, rfl, by rw [HE.out]; exact owni_nil _ _, HB.out⟩
end Go.Proofs.Ythooibljnfnnhaa
end
section
namespace Go.Proofs.Ythooibljnfnnhaa
open Go Go.RowKit
set_option linter.unusedVariables false
set_option linter.unusedSimpArgs false
/-- Whether a place is a member's. -/
def mbB (t : List Nd) (z : Int) : Bool := decide (0 ≤ z) && (decide (z < (lvsN t.length : Int)) && decide ((nAt t (2 * z.toNat)).k = 1))
set_option maxHeartbeats 2000000 in
theorem isMember_e (A : Option Addr) (t : List Nd) (ad : List NA) (c : Nat) (z : Int) (w : World) (hA : TrIn w w.heap.size A t ad) (hl : t.length ≤ 1000000) : Calls Try.prog 36 #[.slice A t.length c, .int .i64 z] w fun e w' => e = .returned (.bool (mbB t z)) ∧ w' = w := by
  have HLv := hid (leaves_e A t.length c w hl)
  have HM : Hid (mbB t z = (decide (0 ≤ z) && (decide (z < (lvsN t.length : Int)) && decide ((nAt t (2 * z.toNat)).k = 1)))) := hid rfl
  have hlv : lvsN t.length = 0 ∨ t.length = 2 * lvsN t.length - 1 ∧ 0 < lvsN t.length := by
    rcases (@lvs_cases t.length) with ⟨K, hK, h1, h2⟩ | ⟨h1, -⟩
    · refine .inr ?_
      rw [h2]; exact ⟨h1, Nat.two_pow_pos K⟩
    · exact .inl h1
  obtain ⟨n, hn⟩ : ∃ n, n = lvsN t.length := ⟨_, rfl⟩
  rw [← hn] at HLv HM hlv
  obtain ⟨r, hr⟩ : ∃ r, r = mbB t z := ⟨_, rfl⟩
  rw [← hr] at HM ⊢
  by_cases h0 : 0 ≤ z
  · have HM2 : Hid (r = (decide (z < (n : Int)) && decide ((nAt t (2 * z.toNat)).k = 1))) := hid (by rw [HM.out, decide_eq_true h0]; rfl)
    by_cases hlt : z < (n : Int)
    · have hz : z = (z.toNat : Int) := by omega
      obtain ⟨k, hk⟩ : ∃ k, k = z.toNat := ⟨_, rfl⟩
      rw [← hk] at hz HM2
      subst hz
      obtain ⟨b, o, nn, a, rfl, hbl, -, hnt, -, hrg⟩ := hA.at_ (show 2 * k < t.length by omega)
      have HR : Hid (r = decide (nn.k = 1)) := hid (by rw [HM2.out, decide_eq_true hlt, hnt]; rfl)
      have hkc := kind_at hrg
      obtain ⟨x, hx⟩ : ∃ x, x = 2 * k := ⟨_, rfl⟩
      rw [← hx] at hkc
      have hw2 : wrap64 (2 * (k : Int)) = (x : Int) := (wrap64_in (by omega) (by omega)).trans (by omega)
      have hxi : (x : Int) < (t.length : Int) := by omega
      have hx0 : (0 : Int) ≤ (x : Int) := by omega
      have hki : ((nn.k : Int) == 1) = decide (nn.k = 1) := by rw [Bool.eq_iff_iff, beq_iff_eq, decide_eq_true_iff]; omega
      obtain ⟨p, hp⟩ : ∃ p, p = decide (nn.k = 1) := ⟨_, rfl⟩
      rw [← hp] at HR hki
      clear HM HM2 hn hlv hr hrg hnt hx hp hl hA hk
      go_enter Try.func36, Try.ntmps36
      go_wp2_with fail
      refine HLv.out.mono ?_
      rintro e w1 ⟨rfl, rfl⟩
      clear HLv
      go_wp2
      go_ret
      exact ⟨by rw [HR.out]; first | rfl | exact congrArg (fun b => Ending.returned (.bool b)) hki, rfl⟩
    · have HR : Hid (r = false) := hid (by rw [HM2.out, decide_eq_false hlt]; rfl)
      have hlt' : decide (z < (n : Int)) = false := decide_eq_false hlt
      clear HM HM2 hn hlv hr hl hA hlt
      go_enter Try.func36, Try.ntmps36
      go_wp2_with fail
      refine HLv.out.mono ?_
      rintro e w1 ⟨rfl, rfl⟩
      clear HLv
      go_wp2
      go_ret
      exact ⟨by rw [HR.out]; first | rfl | exact congrArg (fun b => Ending.returned (.bool b)) hlt', rfl⟩
  · have HR : Hid (r = false) := hid (by rw [HM.out, decide_eq_false h0]; rfl)
    have h0' : decide (0 ≤ z) = false := decide_eq_false h0
    clear HM hn hlv hr hl hA h0 HLv
    go_enter Try.func36, Try.ntmps36
    go_wp2
    go_ret
    exact ⟨by rw [HR.out]; first | rfl | exact congrArg (fun b => Ending.returned (.bool b)) h0', rfl⟩
end Go.Proofs.Ythooibljnfnnhaa
end
section
namespace Go.Proofs.Ythooibljnfnnhaa
open Go Go.RowKit
set_option linter.unusedVariables false
set_option linter.unusedSimpArgs false
set_option maxRecDepth 100000 in
set_option maxHeartbeats 1000000 in
theorem doubled_e (B g : Nat) (t : List Nd) (ad : List NA) (w : World) (hM : MT w B g t.length t ad) (hB : B ≤ w.heap.size) (hl : t.length ≤ 400000) :
    Calls Try.prog 48 #[.slice (some ⟨g, 0, none⟩) t.length t.length] w fun e w' => ∃ g' C', e = .returned (.slice (some ⟨g', 0, none⟩) (t.length + (t.length + 1)) C') ∧ (∃ ad', MT w' B g' C' (t ++ List.replicate (t.length + 1) nd00) ad') ∧ Below w.heap.size w w' := by
  obtain ⟨g', C', w', hrun, hmt, hb⟩ := hM.more hB (t.length + 1) (by omega) (by omega) 22
  have HRUN := hid hrun; have HMT := hid hmt; have HB := hid hb
  have hw1 : wrap64 ((t.length : Int) + 1) = ((t.length + 1 : Nat) : Int) := (wrap64_in (by omega) (by omega)).trans (by omega)
  obtain ⟨m, hm⟩ : ∃ m, m = t.length + 1 := ⟨_, rfl⟩
  rw [← hm] at HRUN HMT hw1 ⊢
  obtain ⟨n, hn⟩ : ∃ n, n = t.length := ⟨_, rfl⟩
  rw [← hn] at HRUN hw1 ⊢
  clear hrun hmt hb hM hB hl hm hn
  go_enter Try.func48, Try.ntmps48
  go_wp2_with (at_builtin; refine Lib.wpList_append_run _ rfl (.tmp 3) (.tmp 6) 22 3 rfl (.slice (some ⟨g, 0, none⟩) n n) (.int .i64 (m : Int)) rfl (by first | rfl | exact congrArg (Value.int IntKind.i64) hw1) (.slice (some ⟨g', 0, none⟩) (n + m) C') w' HRUN.out ?_)
  go_ret
  exact ⟨_, _, rfl, ⟨_, HMT.out⟩, HB.out⟩
/-- Why a leaf is refused. -/
noncomputable def rfE (t : List Nd) (l : Lf) : Nat := if rgt t = true then lbE l else 12
set_option maxHeartbeats 2000000 in
theorem refused_e (A : Option Addr) (t : List Nd) (ad : List NA) (c : Nat) (l : Lf) (la : LA) (w : World) (hA : TrQ w w.heap.size A c t ad) (hm : TrM t) (hx : LfIn w l la) (hl : Lf200 l) :
    Calls Try.prog 46 #[.slice A t.length c, .agg (lfV l la)] w fun e w' => e = .returned (.int .u8 (rfE t l : Int)) ∧ Below w.heap.size w w' := by
  have K1 := hid (heap_alloc_new w (.cells (lfV l la) LfT))
  have HB0 : Hid (Below w.heap.size w (w.alloc (.cells (lfV l la) LfT))) := hid ((Below.refl _ _).alloc (Nat.le_refl _) _)
  have HR := hid (tree_right A t ad c (w.alloc (.cells (lfV l la) LfT)) (hA.up HB0.out) hm)
  by_cases hr : rgt t = true
  · have HE : Hid (rfE t l = lbE l) := hid (by unfold rfE; rw [if_pos hr])
    rw [hr] at HR
    have HLB : Hid (∀ W, Below w.heap.size w W → Calls Try.prog 74 #[.agg (lfV l la)] W (BysE W (lbX l) (lbE l))) := hid fun W hb => node_leafbytes l la W (hx.on hb) hl
    clear hr hA hm hx hl
    go_enter Try.func46, Try.ntmps46
    go_wp2_with fail
    refine HR.out.mono ?_
    rintro e w1 ⟨rfl, hb⟩
    have HB1 := hid (HB0.out.trans (hb.mono HB0.out.size))
    have K2 := hid ((hb.block _ (block_lt K1.out)).trans K1.out)
    have x0 := cell_of K2.out 0 _ rfl; have x1 := cell_of K2.out 1 _ rfl; have x2 := cell_of K2.out 2 _ rfl; have x3 := cell_of K2.out 3 _ rfl; have x4 := cell_of K2.out 4 _ rfl; have x5 := cell_of K2.out 5 _ rfl
    clear hb HR HB0 K1 K2
    go_wp2_with fail
    refine (HLB.out _ HB1.out).mono ?_
    rintro e w2 ⟨A1, c1, rfl, -, hb⟩
    have HB2 := hid (HB1.out.trans (hb.mono HB1.out.size))
    clear hb HLB HB1 x0 x1 x2 x3 x4 x5
    go_wp2
    go_ret
    exact ⟨by rw [HE.out]; rfl, HB2.out⟩
  · have HE : Hid (rfE t l = 12) := hid (by unfold rfE; rw [if_neg hr])
    rw [show rgt t = false by simpa using hr] at HR
    clear hr hA hm hx hl
    go_enter Try.func46, Try.ntmps46
    go_wp2_with fail
    refine HR.out.mono ?_
    rintro e w1 ⟨rfl, hb⟩
    have HB1 := hid (HB0.out.trans (hb.mono HB0.out.size))
    clear hb HR HB0 K1
    go_wp2
    go_ret
    exact ⟨by rw [HE.out]; rfl, HB1.out⟩
theorem first_is {t : List Nd} {n k : Nat} (hk : k ≤ n) (hkd : ∀ i, i < n → (nAt t (2 * i)).k = 0 ∨ (nAt t (2 * i)).k = 1) (h1 : ∀ j, j < k → (nAt t (2 * j)).k = 1) (h2 : k < n → (nAt t (2 * k)).k ≠ 1) : firstB t n = k := by
  rcases Nat.lt_trichotomy (firstB t n) k with h | h | h
  · have hb := firstB_blank (t := t) (n := n) (by omega)
    have := h1 _ h
    omega
  · exact h
  · have hle := firstB_le t n
    have hn := firstB_before (t := t) (n := n) (i := k) h
    rcases hkd k (by omega) with h3 | h3
    · exact absurd h3 hn
    · exact absurd h3 (h2 (by omega))
set_option maxHeartbeats 2000000 in
theorem firstBlank_e (A : Option Addr) (t : List Nd) (ad : List NA) (c K : Nat) (w : World) (hA : TrIn w w.heap.size A t ad) (hK : Rt t K) : Calls Try.prog 47 #[.slice A t.length c] w fun e w' => e = .returned (.int .i64 (addI t K : Int)) ∧ w' = w := by
  have hlv : lvsN t.length = 2 ^ K := by unfold lvsN; rw [lvs_sz hK.size]
  have hp := pow_le16 hK.size.2
  have hl : t.length ≤ 1000000 := by have := hK.size.1; omega
  have HIM : Hid (∀ k : Nat, Calls Try.prog 36 #[.slice A t.length c, .int .i64 (k : Int)] w fun e w' => e = .returned (.bool (decide (k < 2 ^ K ∧ (nAt t (2 * k)).k = 1))) ∧ w' = w) := hid fun k => by
    have h := isMember_e A t ad c (k : Int) w hA hl
    have e : mbB t (k : Int) = decide (k < 2 ^ K ∧ (nAt t (2 * k)).k = 1) := by
      unfold mbB
      rw [hlv, Int.toNat_natCast, Bool.eq_iff_iff, Bool.and_eq_true, Bool.and_eq_true, decide_eq_true_iff, decide_eq_true_iff, decide_eq_true_iff, decide_eq_true_iff]
      constructor
      · rintro ⟨-, h1, h2⟩; exact ⟨by omega, h2⟩
      · rintro ⟨h1, h2⟩; exact ⟨by omega, by omega, h2⟩
    rw [e] at h
    exact h
  have HF : Hid (∀ k, k ≤ 2 ^ K → (∀ j, j < k → (nAt t (2 * j)).k = 1) → (k < 2 ^ K → (nAt t (2 * k)).k ≠ 1) → addI t K = k) := hid fun k h1 h2 h3 => first_is h1 (rt_kinds hK) h2 h3
  obtain ⟨n, hn⟩ : ∃ n, n = 2 ^ K := ⟨_, rfl⟩
  rw [← hn] at HIM HF hp
  clear hn hlv hl hA hK
  go_enter Try.func47, Try.ntmps47
  go_wp2
  go_loopg [3] (n + 1) (fun r i wr => ∃ k : Nat, k + r = n + 1 ∧ k ≤ n ∧ i = .int .i64 (k : Int) ∧ (∀ j, j < k → (nAt t (2 * j)).k = 1) ∧ wr = w)
  case atStart => exact ⟨0, by omega, by omega, rfl, fun j hj => by omega, rfl⟩
  case round =>
    obtain ⟨k, hk, hkn, rfl, hno, rfl⟩ := hrel
    have HK := hid hk; have HNO := hid hno; have HKN := hid hkn
    have hw1 : wrap64 ((k : Int) + 1) = (k : Int) + 1 := wrap64_in (by omega) (by omega)
    have HIk := hid (HIM.out k)
    by_cases hc : k < n ∧ (nAt t (2 * k)).k = 1
    · have HC := hid hc
      rw [decide_eq_true hc] at HIk
      clear hk hno hkn hc
      go_wp2_with fail
      refine HIk.out.mono ?_
      rintro e w2 ⟨rfl, rfl⟩
      clear HIk
      go_wp2
      have hk := HK.out; have hc := HC.out.1
      go_roundg (n + 1 - (k + 1))
      case measure => clear hw1; omega
      case rel => exact ⟨k + 1, by clear hw1; omega, by clear hw1; omega, by first | rfl | (rw [hw1]; rfl), fun j hj => by
        rcases Nat.lt_or_ge j k with h1 | h1
        · exact HNO.out j h1
        · obtain rfl : j = k := by clear hw1; omega
          exact HC.out.2, rfl⟩
    · have HR : Hid (addI t K = k) := hid (HF.out k hkn hno fun h1 h2 => hc ⟨h1, h2⟩)
      rw [decide_eq_false hc] at HIk
      clear hk hno hkn hc
      go_wp2_with fail
      refine HIk.out.mono ?_
      rintro e w2 ⟨rfl, rfl⟩
      clear HIk
      go_wp2
      go_ret
      exact ⟨by rw [HR.out]; rfl, rfl⟩
end Go.Proofs.Ythooibljnfnnhaa
end
section
namespace Go.Proofs.Ythooibljnfnnhaa
open Go Go.RowKit
set_option linter.unusedVariables false
set_option linter.unusedSimpArgs false
/-- A tree that a call answers. -/
def TrA (W : World) (u : List Nd) (A : Option Addr) (c : Nat) (w' : World) : Prop := ∃ ad, TrQ w' w'.heap.size A c u ad
theorem trA_nil (W w' : World) : TrA W [] none 0 w' := ⟨[], TrIn.nil _ _ _, ⟨Nat.le_refl _, by decide⟩, fun j n a h => by cases h⟩
theorem nAt_more (t : List Nd) (m x : Nat) : nAt (t ++ List.replicate m nd00) x = nAt t x := by
  rcases Nat.lt_or_ge x t.length with h | h
  · unfold nAt; rw [List.getD_eq_getElem?_getD, List.getD_eq_getElem?_getD, List.getElem?_append_left h]
  · rw [nAt_far h]
    unfold nAt
    rw [List.getD_eq_getElem?_getD, List.getElem?_append_right h, List.getElem?_replicate]
    split <;> rfl
theorem add_is {t tt : List Nd} {l : Lf} {i n : Nat} (hl : tt.length = n) (hi : 2 * i < n) (ht : ∀ x, nAt tt x = nAt t x) : lateT (tt.set (2 * i) ⟨1, l, pr0⟩) i = addT t l i n := by
  have hsl : (tt.set (2 * i) ⟨1, l, pr0⟩).length = n := by rw [List.length_set, hl]
  refine nAt_ext (by rw [lateT_length, hsl, addT_length]) fun x hx => ?_
  rw [lateT_length] at hx
  rw [lateT_at hx, addT_at (by rw [hsl] at hx; exact hx)]
  unfold spN addN
  rw [nAt_set (by rw [hl]; exact hi), ht]
  by_cases h : x = 2 * i
  · rw [if_neg (fun ha : abv x i => ha.1 h), if_pos h, if_pos h]
  · rw [if_neg h, if_neg h]
    by_cases ha : abv x i
    · rw [if_pos ha]
      by_cases hk : (nAt t x).k = 2
      · rw [if_pos hk, if_pos ⟨hk, ha⟩]; rfl
      · rw [if_neg hk, if_neg (fun h => hk h.1)]
    · rw [if_neg ha, if_neg (fun h => ha h.2)]
theorem add_lt {t tt : List Nd} {K : Nat} (h : Rt t K) {l : Lf} {i n : Nat} (hl : tt.length = n) (hi : 2 * i < n) (ht : ∀ x, nAt tt x = nAt t x) (hb : (nAt t (2 * i)).k = 0) : LtOk (tt.set (2 * i) ⟨1, l, pr0⟩) i := fun x hk ha => by
  rw [nAt_set (by rw [hl]; exact hi), if_neg ha.1, ht] at hk ⊢
  have hx : x < t.length := by
    rcases Nat.lt_or_ge x t.length with h1 | h1
    · exact h1
    · rw [nAt_far h1] at hk; cases hk
  refine ⟨(late_rise h.node hx).1, fun hm => ?_, by have := late_len (x := x) h; omega⟩
  obtain ⟨j, hj, -, hjk, -⟩ := h.late x hx _ hm
  have : j = i := by omega
  subst this
  omega
def kT (t : List Nd) : Nat := (lvsK t.length).getD 0
theorem kT_is {t : List Nd} {K : Nat} (h : Sz t K) : kT t = K := by unfold kT; rw [lvs_sz h]; rfl
/-- What is told of a leaf to be added: the error; the tree; the place. -/
noncomputable def addG (t : List Nd) (l : Lf) : Bool := rgt t && (leafB l && decide (addI t (kT t) < 65536))
noncomputable def addE (t : List Nd) (l : Lf) : Nat := if rgt t = true then (if leafB l = true then (if addI t (kT t) < 65536 then 0 else 6) else 3) else 12
noncomputable def addR (t : List Nd) (l : Lf) : List Nd := if addG t l = true then addU t (kT t) l else []
noncomputable def addP (t : List Nd) (l : Lf) : Nat := if addG t l = true then addI t (kT t) else 0
theorem lf200_M {l : Lf} (h : Lf200 l) : LfM l := by unfold Lf200 at h; unfold LfM; omega
set_option maxRecDepth 100000 in
set_option maxHeartbeats 8000000 in
theorem tree_add (A : Option Addr) (t : List Nd) (ad : List NA) (c : Nat) (l : Lf) (la : LA) (w : World) (hA : TrQ w w.heap.size A c t ad) (hm : TrM t) (hx : LfIn w l la) (hl : Lf200 l) :
    Calls Try.prog 19 #[.slice A t.length c, .agg (lfV l la)] w fun e w' => ∃ A' c', e = .returned (.tuple #[.slice A' (addR t l).length c', .int .i64 (addP t l : Int), .int .u8 (addE t l : Int)]) ∧ TrA w (addR t l) A' c' w' ∧ Below w.heap.size w w' := by
  have K1 := hid (heap_alloc_new w (.cells (lfV l la) LfT))
  have HB0 : Hid (Below w.heap.size w (w.alloc (.cells (lfV l la) LfT))) := hid ((Below.refl _ _).alloc (Nat.le_refl _) _)
  have y0 := cell_of K1.out 0 _ rfl; have y1 := cell_of K1.out 1 _ rfl; have y2 := cell_of K1.out 2 _ rfl; have y3 := cell_of K1.out 3 _ rfl; have y4 := cell_of K1.out 4 _ rfl; have y5 := cell_of K1.out 5 _ rfl
  have HRf := hid (refused_e A t ad c l la (w.alloc (.cells (lfV l la) LfT)) (hA.up HB0.out) hm (hx.on HB0.out) hl)
  by_cases he : rfE t l = 0
  · have hr : rgt t = true := by
      unfold rfE at he
      split at he
      · assumption
      · cases he
    have hlb : leafB l = true := by
      unfold rfE lbE at he
      rw [if_pos hr] at he
      split at he
      · assumption
      · cases he
    obtain ⟨K, hK⟩ := rgt_rt hr
    have hkT := kT_is hK.size
    have HFi : Hid (∀ W, Below w.heap.size w W → Calls Try.prog 47 #[.slice A t.length c] W fun e w' => e = .returned (.int .i64 (addI t K : Int)) ∧ w' = W) := hid fun W hb => firstBlank_e A t ad c K W (hA.tr.up hb) hK
    have hile : addI t K ≤ 2 ^ K := firstB_le _ _
    have hp := pow_le16 hK.size.2
    by_cases hbig : addI t K < 65536
    · have hG : addG t l = true := by unfold addG; rw [hr, hlb, hkT, decide_eq_true hbig]; rfl
      have HE : Hid (addE t l = 0) := hid (by unfold addE; rw [if_pos hr, if_pos hlb, hkT, if_pos hbig])
      have HR : Hid (addR t l = addU t K l) := hid (by unfold addR; rw [if_pos hG, hkT])
      have HP : Hid (addP t l = addI t K) := hid (by unfold addP; rw [if_pos hG, hkT])
      obtain ⟨k1, k2, k3, k4⟩ := addK_facts hK.size hbig
      have hblank := addI_blank hK.size
      have HCo : Hid (∀ W, Below w.heap.size w W → Calls Try.prog 23 #[.slice A t.length c] W fun e w' => ∃ g, e = .returned (.slice (some ⟨g, 0, none⟩) t.length t.length) ∧ (∃ ad', MT w' W.heap.size g t.length t ad') ∧ Below W.heap.size W w') := hid fun W hb => copy_e A t ad c W (hA.tr.up hb) hm
      have HLv := hid fun W => leaves_call (A := A) (c := c) hK.size W
      have HPu : Hid (∀ (B g C : Nat) (tt : List Nd) (ad' : List NA) (W : World), tt.length = 2 * 2 ^ addK t K - 1 → MT W B g C tt ad' → B ≤ W.heap.size → Below w.heap.size w W → Calls Try.prog 49 #[.slice (some ⟨g, 0, none⟩) tt.length C, .int .i64 (addI t K : Int), .agg (lfV l la)] W fun e w' => e = .returned (.tuple #[]) ∧ (∃ ad', MT w' B g C (tt.set (2 * addI t K) ⟨1, l, pr0⟩) ad') ∧ Below B W w') := hid fun B g C tt ad' W h1 h2 h3 h4 => put_e B g C tt ad' (addI t K) l la W h2 h3 (by rw [h1]; omega) (by rw [h1]; have := pow_le16 k2; omega) (hx.on h4) (lf200_M hl)
      have HLa : Hid (∀ (B g C : Nat) (tt : List Nd) (ad' : List NA) (W : World), tt.length = 2 * 2 ^ addK t K - 1 → (∀ x, nAt tt x = nAt t x) → MT W B g C (tt.set (2 * addI t K) ⟨1, l, pr0⟩) ad' → B ≤ W.heap.size → Calls Try.prog 50 #[.slice (some ⟨g, 0, none⟩) tt.length C, .int .i64 (addI t K : Int)] W fun e w' => e = .returned (.tuple #[]) ∧ (∃ ad', MT w' B g C (addU t K l) ad') ∧ Below B W w') := hid fun B g C tt ad' W h1 h2 h3 h4 => by
        have h := addLate_e B g C _ ad' (addI t K) (addK t K) W h3 h4 ⟨by rw [List.length_set, h1], k2⟩ k3 (add_lt hK h1 (by omega) h2 hblank)
        rw [List.length_set] at h
        have e : lateT (tt.set (2 * addI t K) ⟨1, l, pr0⟩) (addI t K) = addU t K l := add_is h1 (by omega) h2
        rw [e] at h
        exact h
      have HUL : Hid ((addU t K l).length = 2 * 2 ^ addK t K - 1) := hid (addT_length _ _ _ _)
      have htl := hK.size.1
      by_cases hfull : addI t K = 2 ^ K
      · have hk1 : addK t K = K + 1 := by unfold addK moreK; rw [if_pos hfull]
        have hlen2 : t.length + (t.length + 1) = 2 * 2 ^ addK t K - 1 := by rw [hk1, htl, Nat.pow_succ]; have := Nat.two_pow_pos K; omega
        have HDo : Hid (∀ (B g : Nat) (ad' : List NA) (W : World), MT W B g t.length t ad' → B ≤ W.heap.size → Calls Try.prog 48 #[.slice (some ⟨g, 0, none⟩) t.length t.length] W fun e w' => ∃ g' C', e = .returned (.slice (some ⟨g', 0, none⟩) (2 * 2 ^ addK t K - 1) C') ∧ (∃ ad', MT w' B g' C' (t ++ List.replicate (t.length + 1) nd00) ad') ∧ Below W.heap.size W w') := hid fun B g ad' W h1 h2 => by
          have h := doubled_e B g t ad' W h1 h2 (by rw [htl]; omega)
          rw [hlen2] at h
          exact h
        have hrl : (t ++ List.replicate (t.length + 1) nd00).length = 2 * 2 ^ addK t K - 1 := by rw [List.length_append, List.length_replicate, hlen2]
        have HPu2 := hid fun (B g C : Nat) (ad' : List NA) (W : World) => HPu.out B g C (t ++ List.replicate (t.length + 1) nd00) ad' W hrl
        have HLa2 := hid fun (B g C : Nat) (ad' : List NA) (W : World) => HLa.out B g C (t ++ List.replicate (t.length + 1) nd00) ad' W hrl (nAt_more t _)
        rw [hrl] at HPu2 HLa2
        obtain ⟨n, hn⟩ : ∃ n, n = 2 ^ K := ⟨_, rfl⟩
        obtain ⟨i, hi⟩ : ∃ n, n = addI t K := ⟨_, rfl⟩
        obtain ⟨m, hmm⟩ : ∃ m, m = 2 * 2 ^ addK t K - 1 := ⟨_, rfl⟩
        rw [← hn] at HLv hfull
        rw [← hi] at HFi HP HPu2 HLa2 hbig hfull
        rw [← hmm] at HDo HPu2 HLa2 HUL
        have hne : ((i : Int) == 65536) = false := by rw [beq_eq_false_iff_ne]; omega
        have heq : ((i : Int) == (n : Int)) = true := by rw [beq_iff_eq]; omega
        have he0 : ((rfE t l : Int) != 0) = false := by rw [bne_eq_false_iff_eq]; omega
        rw [he] at HRf
        clear hr hlb hK hkT hile hp hbig hG k1 k2 k3 k4 hblank htl hfull hk1 hlen2 hrl hn hi hmm hA hm hx hl HPu HLa he0 he
        go_enter Try.func19, Try.ntmps19
        go_wp2_with fail
        refine HRf.out.mono ?_
        rintro e w1 ⟨rfl, hb⟩
        have HB1 := hid (HB0.out.trans (hb.mono HB0.out.size))
        have K2 := hid ((hb.block _ (block_lt K1.out)).trans K1.out)
        clear hb HRf HB0 K1 y0 y1 y2 y3 y4 y5
        go_wp2_with fail
        refine (HFi.out _ HB1.out).mono ?_
        rintro e w2 ⟨rfl, rfl⟩
        clear HFi
        go_wp2_with fail
        refine (HCo.out _ HB1.out).mono ?_
        rintro e w3 ⟨g, rfl, ⟨ad3, hm3⟩, hb⟩
        have HM3 := hid hm3; have HB3 := hid (HB1.out.trans (hb.mono HB1.out.size))
        have HS3 := hid hb.size
        have K3 := hid ((hb.block _ (block_lt K2.out)).trans K2.out)
        clear hm3 hb HCo K2
        go_wp2_with fail
        refine (HLv.out _).mono ?_
        rintro e w4 ⟨rfl, rfl⟩
        clear HLv
        go_wp2_with fail
        refine (HDo.out _ _ _ _ HM3.out HS3.out).mono ?_
        rintro e w5 ⟨g', C', rfl, ⟨ad5, hm5⟩, hb⟩
        have HM5 := hid hm5; have HB5 := hid (HB3.out.trans (hb.mono HB3.out.size))
        have HS5 := hid (Nat.le_trans HS3.out hb.size)
        have K5 := hid ((hb.block _ (block_lt K3.out)).trans K3.out)
        have x0 := cell_of K5.out 0 _ rfl; have x1 := cell_of K5.out 1 _ rfl; have x2 := cell_of K5.out 2 _ rfl; have x3 := cell_of K5.out 3 _ rfl; have x4 := cell_of K5.out 4 _ rfl; have x5 := cell_of K5.out 5 _ rfl
        clear hm5 hb HDo K3 HM3 HB3 HS3
        go_wp2_with fail
        refine (HPu2.out _ _ _ _ _ HM5.out HS5.out HB5.out).mono ?_
        rintro e w6 ⟨rfl, ⟨ad6, hm6⟩, hb⟩
        have HM6 := hid hm6; have HB6 := hid (HB5.out.trans (hb.mono HB1.out.size))
        have HS6 := hid (Nat.le_trans HS5.out hb.size)
        clear hm6 hb HPu2 K5 HM5 HB5 HS5 x0 x1 x2 x3 x4 x5
        go_wp2_with fail
        refine (HLa2.out _ _ _ _ _ HM6.out HS6.out).mono ?_
        rintro e w7 ⟨rfl, ⟨ad7, hm7⟩, hb⟩
        have HM7 := hid hm7; have HB7 := hid (HB6.out.trans (hb.mono HB1.out.size))
        clear hm7 hb HLa2 HM6 HB6 HS6
        go_wp2
        go_ret3
        exact ⟨some ⟨g', 0, none⟩, C', by rw [HR.out, HP.out, HE.out, HUL.out]; rfl, ⟨ad7, by rw [HR.out]; exact HM7.out.tr⟩, HB7.out⟩
      · have hk1 : addK t K = K := by unfold addK moreK; rw [if_neg hfull]
        have hrl : t.length = 2 * 2 ^ addK t K - 1 := by rw [hk1, htl]
        have HPu2 := hid fun (B g C : Nat) (ad' : List NA) (W : World) => HPu.out B g C t ad' W hrl
        have HLa2 := hid fun (B g C : Nat) (ad' : List NA) (W : World) => HLa.out B g C t ad' W hrl (fun _ => rfl)
        have HUL2 : Hid ((addU t K l).length = t.length) := hid (by rw [HUL.out, hrl])
        obtain ⟨n, hn⟩ : ∃ n, n = 2 ^ K := ⟨_, rfl⟩
        obtain ⟨i, hi⟩ : ∃ n, n = addI t K := ⟨_, rfl⟩
        rw [← hn] at HLv hfull
        rw [← hi] at HFi HP HPu2 HLa2 hbig hfull
        have hne : ((i : Int) == 65536) = false := by rw [beq_eq_false_iff_ne]; omega
        have heq : ((i : Int) == (n : Int)) = false := by rw [beq_eq_false_iff_ne]; omega
        rw [he] at HRf
        clear hr hlb hK hkT hile hp hbig hG k1 k2 k3 k4 hblank htl hfull hk1 hrl hn hi hA hm hx hl HPu HLa he HUL
        go_enter Try.func19, Try.ntmps19
        go_wp2_with fail
        refine HRf.out.mono ?_
        rintro e w1 ⟨rfl, hb⟩
        have HB1 := hid (HB0.out.trans (hb.mono HB0.out.size))
        have K2 := hid ((hb.block _ (block_lt K1.out)).trans K1.out)
        clear hb HRf HB0 K1 y0 y1 y2 y3 y4 y5
        go_wp2_with fail
        refine (HFi.out _ HB1.out).mono ?_
        rintro e w2 ⟨rfl, rfl⟩
        clear HFi
        go_wp2_with fail
        refine (HCo.out _ HB1.out).mono ?_
        rintro e w3 ⟨g, rfl, ⟨ad3, hm3⟩, hb⟩
        have HM3 := hid hm3; have HB3 := hid (HB1.out.trans (hb.mono HB1.out.size))
        have HS3 := hid hb.size
        have K3 := hid ((hb.block _ (block_lt K2.out)).trans K2.out)
        have x0 := cell_of K3.out 0 _ rfl; have x1 := cell_of K3.out 1 _ rfl; have x2 := cell_of K3.out 2 _ rfl; have x3 := cell_of K3.out 3 _ rfl; have x4 := cell_of K3.out 4 _ rfl; have x5 := cell_of K3.out 5 _ rfl
        clear hm3 hb HCo K2 K3
        go_wp2_with fail
        refine (HLv.out _).mono ?_
        rintro e w4 ⟨rfl, rfl⟩
        clear HLv
        go_wp2_with fail
        refine (HPu2.out _ _ _ _ _ HM3.out HS3.out HB3.out).mono ?_
        rintro e w6 ⟨rfl, ⟨ad6, hm6⟩, hb⟩
        have HM6 := hid hm6; have HB6 := hid (HB3.out.trans (hb.mono HB1.out.size))
        have HS6 := hid (Nat.le_trans HS3.out hb.size)
        clear hm6 hb HPu2 HM3 HB3 HS3 x0 x1 x2 x3 x4 x5
        go_wp2_with fail
        refine (HLa2.out _ _ _ _ _ HM6.out HS6.out).mono ?_
        rintro e w7 ⟨rfl, ⟨ad7, hm7⟩, hb⟩
        have HM7 := hid hm7; have HB7 := hid (HB6.out.trans (hb.mono HB1.out.size))
        clear hm7 hb HLa2 HM6 HB6 HS6
        go_wp2
        go_ret3
        exact ⟨some ⟨g, 0, none⟩, t.length, by rw [HR.out, HP.out, HE.out, HUL2.out]; rfl, ⟨ad7, by rw [HR.out]; exact HM7.out.tr⟩, HB7.out⟩
    · have hG : addG t l = false := by unfold addG; rw [hr, hlb, hkT, decide_eq_false hbig]; rfl
      have HE : Hid (addE t l = 6) := hid (by unfold addE; rw [if_pos hr, if_pos hlb, hkT, if_neg hbig])
      have HR : Hid (addR t l = []) := hid (by unfold addR; rw [hG]; rfl)
      have HP : Hid (addP t l = 0) := hid (by unfold addP; rw [hG]; rfl)
      obtain ⟨i, hi⟩ : ∃ n, n = addI t K := ⟨_, rfl⟩
      rw [← hi] at HFi hbig hile
      have hne : ((i : Int) == 65536) = true := by rw [beq_iff_eq]; omega
      rw [he] at HRf
      clear hr hlb hK hkT hile hp hbig hG hi hA hm hx hl he
      go_enter Try.func19, Try.ntmps19
      go_wp2_with fail
      refine HRf.out.mono ?_
      rintro e w1 ⟨rfl, hb⟩
      have HB1 := hid (HB0.out.trans (hb.mono HB0.out.size))
      clear hb HRf HB0 K1 y0 y1 y2 y3 y4 y5
      go_wp2_with fail
      refine (HFi.out _ HB1.out).mono ?_
      rintro e w2 ⟨rfl, rfl⟩
      clear HFi
      go_wp2
      go_ret3
      exact ⟨none, 0, by rw [HR.out, HP.out, HE.out]; rfl, by rw [HR.out]; exact trA_nil _ _, HB1.out⟩
  · have HE : Hid (addE t l = rfE t l) := hid (by
      unfold addE rfE lbE
      unfold rfE lbE at he
      by_cases hr : rgt t = true
      · rw [if_pos hr] at he ⊢
        rw [if_pos hr]
        by_cases hlb : leafB l = true
        · rw [if_pos hlb] at he; exact absurd rfl he
        · rw [if_neg hlb, if_neg hlb]
      · rw [if_neg hr, if_neg hr])
    have hG : addG t l = false := by
      unfold rfE lbE at he
      unfold addG
      by_cases hr : rgt t = true
      · rw [if_pos hr] at he
        by_cases hlb : leafB l = true
        · rw [if_pos hlb] at he; exact absurd rfl he
        · rw [show leafB l = false by simpa using hlb, Bool.false_and, Bool.and_false]
      · rw [show rgt t = false by simpa using hr, Bool.false_and]
    have HR : Hid (addR t l = []) := hid (by unfold addR; rw [hG]; rfl)
    have HP : Hid (addP t l = 0) := hid (by unfold addP; rw [hG]; rfl)
    obtain ⟨er, her⟩ : ∃ n, n = rfE t l := ⟨_, rfl⟩
    rw [← her] at HRf HE he
    have he1 : ((er : Int) != 0) = true := by rw [bne_iff_ne]; omega
    clear hG her hA hm hx hl he
    go_enter Try.func19, Try.ntmps19
    go_wp2_with fail
    refine HRf.out.mono ?_
    rintro e w1 ⟨rfl, hb⟩
    have HB1 := hid (HB0.out.trans (hb.mono HB0.out.size))
    clear hb HRf HB0 K1 y0 y1 y2 y3 y4 y5
    go_wp2
    go_ret3
    exact ⟨none, 0, by rw [HR.out, HP.out, HE.out]; rfl, by rw [HR.out]; exact trA_nil _ _, HB1.out⟩
end Go.Proofs.Ythooibljnfnnhaa
end
section
namespace Go.Proofs.Ythooibljnfnnhaa
open Go Go.RowKit
set_option linter.unusedVariables false
set_option linter.unusedSimpArgs false
/-- Does a node resolve to something? -/
def rsB (t : List Nd) (l q : Nat) : Bool := !(resN t l q).isEmpty
theorem rsB_full {t : List Nd} {l q : Nat} (h : (nAt t (nd q l)).k ≠ 0) : rsB t l q = true := by
  unfold rsB
  cases l with
  | zero => rw [resN, if_neg h]; rfl
  | succ l => rw [resN, if_neg h]; rfl
theorem rsB_zero {t : List Nd} {q : Nat} (h : (nAt t (nd q 0)).k = 0) : rsB t 0 q = false := by unfold rsB; rw [resN, if_pos h]; rfl
theorem rsB_succ {t : List Nd} {l q : Nat} (h : (nAt t (nd q (l + 1))).k = 0) : rsB t (l + 1) q = (rsB t l (2 * q) || rsB t l (2 * q + 1)) := by
  unfold rsB
  rw [resN, if_pos h]
  cases resN t l (2 * q) <;> simp
set_option maxHeartbeats 4000000 in
theorem resolves_e (A : Option Addr) (t : List Nd) (ad : List NA) (c K : Nat) (hz : Sz t K) (l : Nat) : ∀ (q : Nat) (w : World), l ≤ K → q < 2 ^ (K - l) → TrIn w w.heap.size A t ad →
    Calls Try.prog 60 #[.slice A t.length c, .int .i64 (nd q l : Int)] w (RetB w (rsB t l q)) := by
  have full : ∀ (l q : Nat) (w : World), l ≤ K → q < 2 ^ (K - l) → TrIn w w.heap.size A t ad → (nAt t (nd q l)).k ≠ 0 →
      Calls Try.prog 60 #[.slice A t.length c, .int .i64 (nd q l : Int)] w (RetB w (rsB t l q)) := by
    intro l q w hl hq hA hk
    have hlt := sz_lt hz hl hq
    have HR := hid (rsB_full hk)
    obtain ⟨b, o, n, a, rfl, hbl, hnn, hnt, hni, hr⟩ := hA.at_ hlt
    rw [← hnt] at hk
    have hkc := kind_at hr
    obtain ⟨x, hx⟩ : ∃ x, x = nd q l := ⟨_, rfl⟩
    rw [← hx] at hlt hkc ⊢
    have hxi : (x : Int) < (t.length : Int) := by omega
    have h0 : (0 : Int) ≤ (x : Int) := by omega
    have hki : ((n.k : Int) != 0) = true := by rw [bne_iff_ne]; omega
    clear hr hni hnt hnn hbl hx hk hA hl hq hlt
    go_enter Try.func60, Try.ntmps60
    go_wp2
    go_ret
    exact ⟨by rw [HR.out]; rfl, Below.refl _ _⟩
  induction l with
  | zero =>
    intro q w hl hq hA
    by_cases hk : (nAt t (nd q 0)).k = 0
    · have hlt := sz_lt hz hl hq
      have HL := hid fun W => isLeafs_0 q W
      have HR := hid (rsB_zero hk)
      obtain ⟨b, o, n, a, rfl, hbl, hnn, hnt, hni, hr⟩ := hA.at_ hlt
      rw [← hnt] at hk
      have hkc := kind_at hr
      obtain ⟨x, hx⟩ : ∃ x, x = nd q 0 := ⟨_, rfl⟩
      rw [← hx] at hlt hkc HL ⊢
      have hxi : (x : Int) < (t.length : Int) := by omega
      have h0 : (0 : Int) ≤ (x : Int) := by omega
      have hki : ((n.k : Int) != 0) = false := by rw [bne_eq_false_iff_eq]; omega
      clear hr hni hnt hnn hbl hx hk hA hl hq hlt full
      go_enter Try.func60, Try.ntmps60
      go_wp2_with fail
      refine (HL.out _).mono ?_
      rintro e w1 ⟨rfl, rfl⟩
      clear HL
      go_wp2
      go_ret
      exact ⟨by rw [HR.out]; rfl, Below.refl _ _⟩
    · exact full 0 q w hl hq hA hk
  | succ l ih =>
    intro q w hl hq hA
    by_cases hk : (nAt t (nd q (l + 1))).k = 0
    · have hlt := sz_lt hz hl hq
      obtain ⟨q1, q2⟩ := half hl hq
      have hq16 := q16 hl hz.2 hq
      have HL := hid fun W => isLeafs_s q l W
      have HLe := hid fun W => Left_e q l W (by have := hz.2; omega) hq16
      have HRi := hid fun W => Right_e q l W (by have := hz.2; omega) hq16
      have HI1 : Hid (∀ W, Below w.heap.size w W → Calls Try.prog 60 #[.slice A t.length c, .int .i64 (nd (2 * q) l : Int)] W (RetB W (rsB t l (2 * q)))) := hid fun W hb => ih (2 * q) W (by omega) q1 (hA.up hb)
      have HI2 : Hid (∀ W, Below w.heap.size w W → Calls Try.prog 60 #[.slice A t.length c, .int .i64 (nd (2 * q + 1) l : Int)] W (RetB W (rsB t l (2 * q + 1)))) := hid fun W hb => ih (2 * q + 1) W (by omega) q2 (hA.up hb)
      have HM := hid (rsB_succ hk)
      obtain ⟨b, o, n, a, rfl, hbl, hnn, hnt, hni, hr⟩ := hA.at_ hlt
      rw [← hnt] at hk
      have hkc := kind_at hr
      obtain ⟨x, hx⟩ : ∃ x, x = nd q (l + 1) := ⟨_, rfl⟩
      obtain ⟨y, hy⟩ : ∃ y, y = nd (2 * q) l := ⟨_, rfl⟩
      obtain ⟨z, hz2⟩ : ∃ z, z = nd (2 * q + 1) l := ⟨_, rfl⟩
      obtain ⟨p, hp⟩ : ∃ p, p = rsB t l (2 * q) := ⟨_, rfl⟩
      obtain ⟨p2, hp2⟩ : ∃ p, p = rsB t l (2 * q + 1) := ⟨_, rfl⟩
      rw [← hx] at HL HLe HRi hkc hlt ⊢
      rw [← hy] at HLe HI1
      rw [← hz2] at HRi HI2
      rw [← hp] at HI1 HM
      rw [← hp2] at HI2 HM
      have hxi : (x : Int) < (t.length : Int) := by omega
      have h0 : (0 : Int) ≤ (x : Int) := by omega
      have hki : ((n.k : Int) != 0) = false := by rw [bne_eq_false_iff_eq]; omega
      clear hx hy hz2 hp hp2 hr hni hnt hnn hbl hk hA hl hq hlt q1 q2 hq16 ih full hz
      go_enter Try.func60, Try.ntmps60
      go_wp2_with fail
      refine (HL.out _).mono ?_
      rintro e w1 ⟨rfl, rfl⟩
      clear HL hkc
      go_wp2_with fail
      refine (HLe.out _).mono ?_
      rintro e w2 ⟨rfl, hb⟩
      have HB := hid hb
      clear hb HLe
      go_wp2_with fail
      refine (HI1.out _ HB.out).mono ?_
      rintro e w3 ⟨rfl, hb⟩
      have HB3 := hid (HB.out.trans (hb.mono HB.out.size))
      clear hb HI1 HB
      cases p with
      | true =>
        go_wp2
        go_ret
        exact ⟨by rw [HM.out]; rfl, HB3.out⟩
      | false =>
        go_wp2_with fail
        refine (HRi.out _).mono ?_
        rintro e w4 ⟨rfl, hb⟩
        have HB4 := hid (HB3.out.trans (hb.mono HB3.out.size))
        clear hb HRi HB3
        go_wp2_with fail
        refine (HI2.out _ HB4.out).mono ?_
        rintro e w5 ⟨rfl, hb⟩
        have HB5 := hid (HB4.out.trans (hb.mono HB4.out.size))
        clear hb HI2 HB4
        go_wp2
        go_ret
        exact ⟨by rw [HM.out]; rfl, HB5.out⟩
    · exact full (l + 1) q w hl hq hA hk
/-- The filtered path of a place, as far as looked at. -/
def filN (t : List Nd) (i k : Nat) : List Nat := ((List.range k).filter fun j => rsB t j (sbq (i / 2 ^ j))).map fun j => nd (i / 2 ^ (j + 1)) (j + 1)
theorem filN_step (t : List Nd) (i k : Nat) : filN t i (k + 1) = filN t i k ++ if rsB t k (sbq (i / 2 ^ k)) = true then [nd (i / 2 ^ (k + 1)) (k + 1)] else [] := by
  unfold filN
  rw [List.range_succ, List.filter_append, List.map_append, List.filter_cons]
  split <;> simp_all
theorem filN_len (t : List Nd) (i k : Nat) : (filN t i k).length ≤ k := by
  unfold filN
  rw [List.length_map]
  exact Nat.le_trans (List.length_filter_le _ _) (by rw [List.length_range]; exact Nat.le_refl _)
noncomputable def filR (t : List Nd) (z : Int) : List Nat := if rgt t = true ∧ 0 ≤ z ∧ z < (lvsN t.length : Int) then filN t z.toNat ((lvsK t.length).getD 0) else []
theorem filR_no {t : List Nd} {z : Int} (h : ¬ (rgt t = true ∧ 0 ≤ z ∧ z < (lvsN t.length : Int))) : filR t z = [] := by unfold filR; rw [if_neg h]
theorem filR_yes {t : List Nd} {K i : Nat} (h : Rt t K) (hi : i < 2 ^ K) : filR t (i : Int) = filN t i K := by
  have hlv : lvsN t.length = 2 ^ K := by unfold lvsN; rw [lvs_sz h.size]
  unfold filR
  rw [if_pos ⟨rgt_yes h, by omega, by rw [hlv]; omega⟩, lvs_sz h.size, Int.toNat_natCast]
  rfl
set_option maxRecDepth 100000 in
set_option maxHeartbeats 8000000 in
theorem tree_filtered (A : Option Addr) (t : List Nd) (ad : List NA) (c : Nat) (z : Int) (w : World) (hA : TrQ w w.heap.size A c t ad) (hm : TrM t) : Calls Try.prog 31 #[.slice A t.length c, .int .i64 z] w (OwnLn w (filR t z)) := by
  have HLv := hid (leaves_e A t.length c w (by have := hm.1; omega))
  have HR := hid (tree_right A t ad c w hA hm)
  by_cases hr : rgt t = true
  · obtain ⟨K, hK⟩ := rgt_rt hr
    rw [hr] at HR
    have hlv : lvsN t.length = 2 ^ K := by unfold lvsN; rw [lvs_sz hK.size]
    have h16 := hK.size.2
    by_cases h0 : 0 ≤ z
    · by_cases hlt : z < ((2 ^ K : Nat) : Int)
      · obtain ⟨i, hi⟩ : ∃ x : Nat, z = (x : Int) := ⟨z.toNat, by omega⟩
        subst hi
        have hil : i < 2 ^ K := by omega
        have hF := filR_yes hK hil
        have HCo : Hid (∀ W, Calls Try.prog 58 #[.int .i64 ((2 * i : Nat) : Int), .int .i64 ((2 ^ K : Nat) : Int)] W (OwnLn W (copL i 0 K))) := hid fun W => by
          have h := copath_e i 0 K W hil (by omega)
          rw [nd_zero, Nat.zero_add] at h
          exact h
        have HPa : Hid (∀ W, Calls Try.prog 59 #[.int .i64 ((2 * i : Nat) : Int), .int .i64 ((2 ^ K : Nat) : Int)] W (OwnLn W (pathL i 0 K))) := hid fun W => by
          have h := path_e i 0 K W hil (by omega)
          rw [nd_zero, Nat.zero_add] at h
          exact h
        have HRs : Hid (∀ (j : Nat) (W : World), j < K → Below w.heap.size w W → Calls Try.prog 60 #[.slice A t.length c, .int .i64 (nd (sbq (i / 2 ^ j)) j : Int)] W (RetB W (rsB t j (sbq (i / 2 ^ j))))) := hid fun j W hj hb => by
          have hq : sbq (i / 2 ^ j) < 2 ^ (K - j) := by
            have h := div_lt hil (show j ≤ K by omega)
            rw [show K - j = (K - j - 1) + 1 by omega] at h ⊢
            exact sbq_lt h
          exact resolves_e A t ad c K hK.size j (sbq (i / 2 ^ j)) W (by omega) hq (hA.tr.up hb)
        have hp65 := pow_le16 h16
        rw [hlv] at HLv
        obtain ⟨m, hmm⟩ : ∃ m, m = 2 * i := ⟨_, rfl⟩
        obtain ⟨n, hn⟩ : ∃ n, n = 2 ^ K := ⟨_, rfl⟩
        have hw2 : wrap64 (2 * (i : Int)) = (m : Int) := (wrap64_in (by omega) (by omega)).trans (by omega)
        have h0' : decide ((i : Int) < 0) = false := decide_eq_false (by omega)
        have h1' : ¬ (n : Int) ≤ (i : Int) := by omega
        have h1'' : decide ((n : Int) ≤ (i : Int)) = false := decide_eq_false h1'
        rw [← hn] at HLv HCo HPa
        rw [← hmm] at HCo HPa
        rw [hF]
        have HIL := hid hil
        have HH := hid h16
        clear hr hK hlt h0 hm hA hF hil hlv hp65 hmm hn h16
        go_enter Try.func31, Try.ntmps31
        go_wp2_with fail
        refine HLv.out.mono ?_
        rintro e w1 ⟨rfl, rfl⟩
        clear HLv
        go_wp2_with fail
        refine HR.out.mono ?_
        rintro e w2 ⟨rfl, hb⟩
        have HB := hid hb
        clear hb HR
        go_wp2_with fail
        refine (HCo.out _).mono ?_
        rintro e w3 ⟨v, rfl, ho, hb⟩
        have HB3 := hid (HB.out.trans (hb.mono HB.out.size))
        obtain ⟨CA, cc, rfl, hs⟩ := own_sl ho
        have HCS := hid hs.lie
        clear hb ho HCo HB hs
        go_wp2_with fail
        refine (HPa.out _).mono ?_
        rintro e w4 ⟨v, rfl, ho, hb⟩
        have HB4 := hid (HB3.out.trans (hb.mono HB3.out.size))
        have HCS4 := hid (lie_on HCS.out hb)
        obtain ⟨PA, pc, rfl, hs⟩ := own_sl ho
        have HPS := hid hs.lie
        clear hb ho HPa HB3 hs HCS h0' h1' h1'' hw2
        have hcl := copL_length i 0 K
        have hpl := pathL_length i 0 K
        rw [hcl, hpl]
        go_wp2
        go_loopg [6, 33] K (fun r v ix wr => ∃ k : Nat, k + r = K ∧ ix = .int .i64 (k : Int) ∧ OwnI wr w4.heap.size v (filN t i k) ∧ Below w4.heap.size w4 wr)
        case atStart => exact ⟨0, by omega, rfl, owni_nil _ _, Below.refl _ _⟩
        case round =>
          obtain ⟨k, hk, rfl, ho, hb⟩ := hrel
          have HK := hid hk; have HO := hid ho; have HB := hid hb
          have HLen := hid (filN_len t i k)
          have hw1 : wrap64 ((k : Int) + 1) = (k : Int) + 1 := wrap64_in (by have := HH.out; omega) (by have := HH.out; omega)
          clear hk ho hb
          by_cases hlt : k < K
          · obtain ⟨b1, o1, rfl, hb1, hc1⟩ := (HCS4.out.below HB.out).numI (k := k) (by rw [hcl]; exact hlt)
            obtain ⟨b2, o2, rfl, hb2, hc2⟩ := (HPS.out.below HB.out).numI (k := k) (by rw [hpl]; exact hlt)
            have hg1 : (copL i 0 K)[k]'(by rw [hcl]; exact hlt) = nd (sbq (i / 2 ^ k)) k := by
              have h := copL_get i 0 K k hlt
              rw [List.getElem?_eq_getElem (by rw [hcl]; exact hlt), Nat.zero_add] at h
              exact Option.some.inj h
            have hg2 : (pathL i 0 K)[k]'(by rw [hpl]; exact hlt) = nd (i / 2 ^ (k + 1)) (k + 1) := by
              have h := pathL_get i 0 K k hlt
              rw [List.getElem?_eq_getElem (by rw [hpl]; exact hlt), Nat.zero_add] at h
              exact Option.some.inj h
            rw [hg1] at hc1
            rw [hg2] at hc2
            have hx : (k : Int) < (K : Int) := by omega
            have h0 : (0 : Int) ≤ (k : Int) := by omega
            have HRk := hid (HRs.out k wr hlt (HB4.out.trans (HB.out.mono HB4.out.size)))
            have HST := hid (filN_step t i k)
            have HLT := hid hlt
            obtain ⟨y, hy⟩ : ∃ y, y = nd (sbq (i / 2 ^ k)) k := ⟨_, rfl⟩
            obtain ⟨x, hx'⟩ : ∃ y, y = nd (i / 2 ^ (k + 1)) (k + 1) := ⟨_, rfl⟩
            rw [← hy] at hc1 HRk
            rw [← hx'] at hc2 HST
            obtain ⟨s, hs⟩ : ∃ s, s = rsB t k (sbq (i / 2 ^ k)) := ⟨_, rfl⟩
            rw [← hs] at HRk HST
            obtain ⟨F, hF⟩ : ∃ F, F = filN t i k := ⟨_, rfl⟩
            rw [← hF] at HO HST HLen
            clear hy hx' hs hF hlt hb1 hb2 hg1 hg2
            go_wp2_with fail
            refine HRk.out.mono ?_
            rintro e w5 ⟨rfl, hb⟩
            have HB5 := hid (HB.out.trans (hb.mono HB.out.size))
            have HO5 := hid (own_onI HO.out hb)
            clear hb HRk HB HO hc1 hc2
            cases s with
            | true =>
              have HSN : Hid (filN t i (k + 1) = F ++ [x]) := hid (by rw [HST.out, if_pos rfl])
              clear HST
              go_wp2_with (at_builtin; refine wpList_append_lie rfl _ _ 30 rfl w4.heap.size 3 (.int .i64 0) 8 Try.underlying30 infoI64 rfl rfl (World.ownsRow.alloc HO5.out (.cells #[.int .i64 (x : Int)] 3)) rfl rfl (Lie.new1 _ _ _) (by intro u hu; simp at hu; subst hu; rfl) ?d1 ?d2 ?d3 ?_)
              case d1 => have := HLen.out; have := HLT.out; have := HH.out; unfold maxLen; simp; omega
              case d2 => have := HLen.out; have := HLT.out; have := HH.out; simp; omega
              case d3 => have := HB5.out.size; simp; omega
              intro v6 w6 hown6 hg6 _
              have HO6 : Hid (OwnI w6 w4.heap.size v6 (filN t i (k + 1))) := hid (by rw [HSN.out]; exact owni_snoc hown6 rfl rfl)
              have HB6 : Hid (Below w4.heap.size w4 w6) := hid ((HB5.out.alloc HB5.out.size _).grown hg6 (by have := HB5.out.size; simp; omega) (own_lt HO5.out))
              clear hown6 hg6 HO5 HB5
              go_wp2
              have hk := HK.out; have hlt := HLT.out
              go_roundg (K - (k + 1))
              case measure => clear hw1; omega
              case rel => exact ⟨k + 1, by clear hw1; omega, by first | rfl | (rw [hw1]; rfl), HO6.out, HB6.out⟩
            | false =>
              have HSN : Hid (filN t i (k + 1) = F) := hid (by rw [HST.out, if_neg (by simp), List.append_nil])
              clear HST
              go_wp2
              have hk := HK.out; have hlt := HLT.out
              go_roundg (K - (k + 1))
              case measure => clear hw1; omega
              case rel => exact ⟨k + 1, by clear hw1; omega, by first | rfl | (rw [hw1]; rfl), by rw [HSN.out]; exact HO5.out, HB5.out⟩
          · have hge : ¬ (k : Int) < (K : Int) := by omega
            obtain rfl : k = K := by have := HK.out; omega
            clear hlt
            go_wp2
            go_ret
            exact ⟨_, rfl, own_base0 HO.out HB4.out.size, HB4.out.trans (HB.out.mono HB4.out.size)⟩
      · have HE : Hid (filR t z = []) := hid (filR_no fun h => hlt (by rw [← hlv]; exact h.2.2))
        rw [hlv] at HLv
        obtain ⟨n, hn⟩ : ∃ n, n = 2 ^ K := ⟨_, rfl⟩
        rw [← hn] at HLv hlt
        have h0' : decide (z < 0) = false := decide_eq_false (by omega)
        have h1' : (n : Int) ≤ z := by omega
        have h1'' : decide ((n : Int) ≤ z) = true := decide_eq_true h1'
        clear hr hlt h0 hA hm hn hK hlv h16
        go_enter Try.func31, Try.ntmps31
        go_wp2_with fail
        refine HLv.out.mono ?_
        rintro e w1 ⟨rfl, rfl⟩
        clear HLv
        go_wp2_with fail
        refine HR.out.mono ?_
        rintro e w2 ⟨rfl, hb⟩
        have HB := hid hb
        clear hb HR
        go_wp2
        go_ret
        exact ⟨_, rfl, by rw [HE.out]; exact owni_nil _ _, HB.out⟩
    · have HE : Hid (filR t z = []) := hid (filR_no fun h => h0 h.2.1)
      have h0' : decide (z < 0) = true := decide_eq_true (by omega)
      have h1' : z < 0 := by omega
      clear hr h0 hA hm hK hlv h16
      go_enter Try.func31, Try.ntmps31
      go_wp2_with fail
      refine HLv.out.mono ?_
      rintro e w1 ⟨rfl, rfl⟩
      clear HLv
      go_wp2_with fail
      refine HR.out.mono ?_
      rintro e w2 ⟨rfl, hb⟩
      have HB := hid hb
      clear hb HR
      go_wp2
      go_ret
      exact ⟨_, rfl, by rw [HE.out]; exact owni_nil _ _, HB.out⟩
  · have HE : Hid (filR t z = []) := hid (filR_no fun h => hr h.1)
    rw [show rgt t = false by simpa using hr] at HR
    clear hr hA hm
    go_enter Try.func31, Try.ntmps31
    go_wp2_with fail
    refine HLv.out.mono ?_
    rintro e w1 ⟨rfl, rfl⟩
    clear HLv
    go_wp2_with fail
    refine HR.out.mono ?_
    rintro e w2 ⟨rfl, hb⟩
    have HB := hid hb
    clear hb HR
    go_wp2
    go_ret
    exact ⟨_, rfl, by rw [HE.out]; exact owni_nil _ _, HB.out⟩
end Go.Proofs.Ythooibljnfnnhaa
end
section
namespace Go.Proofs.Ythooibljnfnnhaa
open Go Go.RowKit
set_option linter.unusedVariables false
set_option linter.unusedSimpArgs false
theorem mbB_of {t : List Nd} {K : Nat} (h : Sz t K) {z : Int} (hm : mbB t z = true) : ∃ i : Nat, z = (i : Int) ∧ i < 2 ^ K ∧ (nAt t (2 * i)).k = 1 := by
  have hlv : lvsN t.length = 2 ^ K := by unfold lvsN; rw [lvs_sz h]
  unfold mbB at hm
  rw [hlv, Bool.and_eq_true, Bool.and_eq_true, decide_eq_true_iff, decide_eq_true_iff, decide_eq_true_iff] at hm
  exact ⟨z.toNat, by omega, by omega, hm.2.2⟩
theorem mbB_nat {t : List Nd} {K i : Nat} (h : Sz t K) (hi : i < 2 ^ K) (hk : (nAt t (2 * i)).k = 1) : mbB t (i : Int) = true := by
  have hlv : lvsN t.length = 2 ^ K := by unfold lvsN; rw [lvs_sz h]
  unfold mbB
  rw [hlv, Bool.and_eq_true, Bool.and_eq_true, decide_eq_true_iff, decide_eq_true_iff, decide_eq_true_iff, Int.toNat_natCast]
  exact ⟨by omega, by omega, hk⟩
end Go.Proofs.Ythooibljnfnnhaa
end
section
namespace Go.Proofs.Ythooibljnfnnhaa
open Go Go.RowKit
set_option linter.unusedVariables false
set_option linter.unusedSimpArgs false
section
variable {P : Program} {ops : Array Oper}
theorem yG_mid {o : Oper} {a : Act} {w : World} (hw : Region.wanted o (yielded ops a.tmps) = true) (ty : TypeId) (x : Operand) (ho : o.op = .load ty x) (b off : Nat) (hx : a.eval x = .pointer (some ⟨b, off, none⟩)) (cs : List Value) (d : TypeDesc)
    (hc : ∀ w', Below w.heap.size w w' → w'.rangeAt b off cs) (hu : P.underlying ty = some d) (hd : d.isRow = true) (hi : (P.info? ty).map (·.size) = some cs.length) : YieldsG P ops o (.agg cs.toArray) a w :=
  yG_val _ hw fun w' hb => by
    unfold execOp
    simp only [ho, hx, Instr.loadAt, Instr.sureAddr, Sem.run_bind, Sem.run_pure, Result.andThen_ok, run_loadVar_mid w' b off ty cs d (hc w' hb) hu hd hi]
end
theorem lfM_le {x : Lf} (h : LfM x) : LfLe x := by unfold LfM at h; unfold LfLe; omega
theorem prM_le {u : Pnt} (h : PrM u) : PrLe u := by unfold PrM at h; unfold PrLe; omega
end Go.Proofs.Ythooibljnfnnhaa
end
section
namespace Go.Proofs.Ythooibljnfnnhaa
open Go Go.RowKit
set_option linter.unusedVariables false
set_option linter.unusedSimpArgs false
theorem memR_of {t : List Nd} {K : Nat} (h : Rt t K) : memR t = memT t (2 ^ K) := by unfold memR; rw [if_pos (rgt_yes h), rt_half h.size]
theorem isT_of {t : List Nd} {K : Nat} (h : Sz t K) (z : Int) : isT t z = true ↔ ∃ i : Nat, z = (i : Int) ∧ i ∈ memT t (2 ^ K) := by
  unfold isT
  rw [rt_half h, decide_eq_true_iff]
  unfold ints
  rw [List.mem_map]
  exact ⟨fun ⟨i, h1, h2⟩ => ⟨i, h2.symm, h1⟩, fun ⟨i, h1, h2⟩ => ⟨i, h2, h1.symm⟩⟩
theorem sameLf_refl (x : Lf) : sameLf x x = true := by unfold sameLf; simp
end Go.Proofs.Ythooibljnfnnhaa
end
section
namespace Go.Proofs.Ythooibljnfnnhaa
open Go Go.RowKit
set_option linter.unusedVariables false
set_option linter.unusedSimpArgs false
noncomputable def lfG (t : List Nd) (z : Int) : Lf := if rgt t = true then (if mbB t z = true then (nAt t (2 * z.toNat)).x else lf0) else lf0
theorem lfO_in {W w : World} {x : Lf} {a : LA} (h : LfOwn W w x a) : LfIn w x a := ⟨Lie.of_own h.1, Lie.of_own h.2.1, Lie.of_own h.2.2.1, Lie.of_own h.2.2.2.1, Lie.of_own h.2.2.2.2⟩
theorem build_lf17 (W : World) : (Instr.build LfT #[]).run Try.prog W = .ok (.agg (lfV lf0 la0)) W := run_build W LfT _ _ (by kernel_rfl)
theorem run_field17 (k : Nat) (x : Lf) (a : LA) (u : Pnt) (p : PA) (W : World) : (Instr.field NdT (.agg (ndV k x a u p)) 1).run Try.prog W = .ok (.agg (lfV x a)) W := by
  first | kernel_rfl | rfl | (simp [Instr.run, Try.underlying38]; rfl)
set_option maxRecDepth 100000 in
set_option maxHeartbeats 8000000 in
theorem tree_leaf (A : Option Addr) (t : List Nd) (ad : List NA) (c : Nat) (z : Int) (w : World) (hA : TrQ w w.heap.size A c t ad) (hm : TrM t) :
    Calls Try.prog 11 #[.slice A t.length c, .int .i64 z] w fun e w' => ∃ la, e = .returned (.tuple #[.agg (lfV (lfG t z) la), .bool (rgt t && mbB t z)]) ∧ LfIn w' (lfG t z) la ∧ Below w.heap.size w w' := by
  have HB0 : Hid (Below w.heap.size w (w.alloc (.cells lfZ LfT))) := hid ((Below.refl _ _).alloc (Nat.le_refl _) _)
  have K0 : Hid ((w.alloc (.cells lfZ LfT)).heap[w.heap.size]? = some (.cells lfZ LfT (0, 0))) := hid (heap_alloc_new w _)
  have HS0 : Hid ((w.alloc (.cells lfZ LfT)).heap.size = w.heap.size + 1) := hid (by simp)
  obtain ⟨W0, hW0⟩ : ∃ W, W = w.alloc (.cells lfZ LfT) := ⟨_, rfl⟩
  have HE : Hid (w.alloc (.cells #[.slice none 0 0, .slice none 0 0, .slice none 0 0, .int .u8 0, .slice none 0 0, .slice none 0 0] LfT) = W0) := hid hW0.symm
  rw [← hW0] at HB0 K0 HS0
  have HKW : Hid (∀ W, Below W0.heap.size W0 W → W.heap[w.heap.size]? = some (.cells lfZ LfT (0, 0))) := hid fun W hb => (hb.block _ (by rw [HS0.out]; omega)).trans K0.out
  have HA := hid (hA.up HB0.out)
  have HRt := hid (tree_right A t ad c W0 HA.out hm)
  have HIM : Hid (∀ W, Below W0.heap.size W0 W → Calls Try.prog 36 #[.slice A t.length c, .int .i64 z] W fun e w' => e = .returned (.bool (mbB t z)) ∧ w' = W) := hid fun W hb => isMember_e A t ad c z W (HA.out.tr.up hb) (by have := hm.1; omega)
  have hbuild := build_lf17
  by_cases hr : rgt t = true
  · rw [hr] at HRt
    by_cases hb1 : mbB t z = true
    · have HG : Hid (lfG t z = (nAt t (2 * z.toNat)).x) := hid (by unfold lfG; rw [if_pos hr, if_pos hb1])
      obtain ⟨K, hK⟩ := rgt_rt hr
      obtain ⟨i, rfl, hi, hk⟩ := mbB_of hK.size hb1
      rw [hb1] at HIM
      rw [Int.toNat_natCast] at HG
      have hl := hm.1
      have hit : 2 * i < t.length := by rw [hK.size.1]; omega
      have HM := hid hm
      have HIT := hid hit
      rw [HG.out, hr, hb1]
      have hw2 : wrap64 (2 * (i : Int)) = ((2 * i : Nat) : Int) := (wrap64_in (by omega) (by omega)).trans (by omega)
      obtain ⟨x, hx⟩ : ∃ x, x = 2 * i := ⟨_, rfl⟩
      rw [← hx] at hw2 HIT hit ⊢
      have hxi : (x : Int) < (t.length : Int) := by omega
      have hx0 : (0 : Int) ≤ (x : Int) := by omega
      clear hA hm hr hb1 hK hi hk HG hx hit hl hW0
      obtain ⟨X, hX⟩ : ∃ X, X = nAt t x := ⟨_, rfl⟩
      rw [← hX]
      have HX := hid hX
      clear hX
      go_enter Try.func11, Try.ntmps11
      go_upto_region 1 with fail
      rw [HE.out]
      go_wp2_with fail
      refine HRt.out.mono ?_
      rintro e w1 ⟨rfl, hb⟩
      have HB1 := hid hb
      clear hb HRt
      go_wp2_with fail
      refine (HIM.out _ HB1.out).mono ?_
      rintro e w2 ⟨rfl, rfl⟩
      have hA2 := HA.out.up HB1.out
      obtain ⟨b, o, n, a, rfl, hbl, hn, hne, hni, hrg⟩ := hA2.tr.at_ HIT.out
      have HR := hid (rng_ll hrg)
      have HC := hid (node_copy n.k n.x a.l n.u a.p w2 ⟨hni.1, hni.2, HM.out.2 _ n hn⟩)
      have hnx : n = X := hne.trans HX.out.symm
      subst hnx
      clear hrg hni hA2 hn HIM HA hne
      go_wp2_with (with_reducible refine wpList_load_mid rfl NdT (.tmp 19) rfl b (o + x * 10) rfl (ndLL n a) _ HR.out Try.underlying38 rfl infoNd16 ?_)
      refine HC.out.mono ?_
      rintro e w3 ⟨lb, q, rfl, ho, -, -, -, hb⟩
      have HO := hid ho
      have hfld := run_field17 n.k n.x lb n.u q
      have HB3 := hid (HB1.out.trans (hb.mono HB1.out.size))
      have HSZ : Hid (w.heap.size < w2.heap.size) := hid (by have := HB1.out.size; have := HS0.out; omega)
      have KZ0 := HKW.out w3 HB3.out
      clear ho hb HC HR
      go_wp2_with (with_reducible refine wpList_store_row rfl LfT (.tmp 4) _ rfl w.heap.size (lfV n.x lb) rfl rfl LfT lfZ KZ0 infoLf lfZ_size lfV_one ?_)
      have KZ := setRow_heap _ w.heap.size lfZ (lfV n.x lb) LfT (0, 0) KZ0
      exact bodyPost_ret (v := .tuple #[.agg (lfV n.x lb), .bool true]) (results_cs rfl _ _ w.heap.size LfT (lfV n.x lb) (0, 0) _ rfl KZ Try.underlying27 rfl infoLf _ rfl) rfl ⟨lb, rfl, lfO_in (lfOwn_put HO.out HSZ.out), (HB0.out.trans (HB3.out.mono HB0.out.size)).trans (below_put _ _ _ (Nat.le_refl _))⟩
    · have HG : Hid (lfG t z = lf0) := hid (by unfold lfG; rw [if_pos hr, if_neg hb1])
      have hb1' : mbB t z = false := by simpa using hb1
      rw [hb1'] at HIM
      rw [HG.out, hr, hb1']
      clear hA hm hr hb1 hb1' HG hW0 HA
      go_enter Try.func11, Try.ntmps11
      go_upto_region 1 with fail
      rw [HE.out]
      go_wp2_with fail
      refine HRt.out.mono ?_
      rintro e w1 ⟨rfl, hb⟩
      have HB1 := hid hb
      clear hb HRt
      go_wp2_with fail
      refine (HIM.out _ HB1.out).mono ?_
      rintro e w2 ⟨rfl, rfl⟩
      have KZ0 := HKW.out w2 HB1.out
      clear HIM
      go_wp2_with (with_reducible refine wpList_store_row rfl LfT (.tmp 4) _ rfl w.heap.size (lfV lf0 la0) rfl rfl LfT lfZ KZ0 infoLf lfZ_size lfV_one ?_)
      have KZ := setRow_heap _ w.heap.size lfZ (lfV lf0 la0) LfT (0, 0) KZ0
      exact bodyPost_ret (v := .tuple #[.agg (lfV lf0 la0), .bool false]) (results_cs rfl _ _ w.heap.size LfT (lfV lf0 la0) (0, 0) _ rfl KZ Try.underlying27 rfl infoLf _ rfl) rfl ⟨la0, rfl, lf0_in _, (HB0.out.trans (HB1.out.mono HB0.out.size)).trans (below_put _ _ _ (Nat.le_refl _))⟩
  · have HG : Hid (lfG t z = lf0) := hid (by unfold lfG; rw [if_neg hr])
    have hr' : rgt t = false := by simpa using hr
    rw [hr'] at HRt
    rw [HG.out, hr']
    clear hA hm hr hr' HG hW0 HA HIM
    go_enter Try.func11, Try.ntmps11
    go_upto_region 1 with fail
    rw [HE.out]
    go_wp2_with fail
    refine HRt.out.mono ?_
    rintro e w1 ⟨rfl, hb⟩
    have HB1 := hid hb
    have KZ0 := HKW.out w1 HB1.out
    clear hb HRt
    go_wp2_with (with_reducible refine wpList_store_row rfl LfT (.tmp 4) _ rfl w.heap.size (lfV lf0 la0) rfl rfl LfT lfZ KZ0 infoLf lfZ_size lfV_one ?_)
    have KZ := setRow_heap _ w.heap.size lfZ (lfV lf0 la0) LfT (0, 0) KZ0
    exact bodyPost_ret (v := .tuple #[.agg (lfV lf0 la0), .bool false]) (results_cs rfl _ _ w.heap.size LfT (lfV lf0 la0) (0, 0) _ rfl KZ Try.underlying27 rfl infoLf _ rfl) rfl ⟨la0, rfl, lf0_in _, (HB0.out.trans (HB1.out.mono HB0.out.size)).trans (below_put _ _ _ (Nat.le_refl _))⟩
end Go.Proofs.Ythooibljnfnnhaa
end
