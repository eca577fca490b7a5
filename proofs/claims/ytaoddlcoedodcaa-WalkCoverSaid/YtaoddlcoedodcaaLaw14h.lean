/-
  The statements of layer 14: all leaves once.
-/
import Derived.Test.YtaoddlcoedodcaaLaw14f
namespace Go.Proofs.Ytaoddlcoedodcaa
open Go Go.RowKit
set_option linter.unusedVariables false
set_option linter.unusedSimpArgs false
theorem covers_le (q l i : Nat) : covers q l i ≤ 1 := by unfold covers; split <;> omega
theorem cnt_le (L : List (Nat × Nat)) (i : Nat) : cnt L i ≤ L.length := by
  induction L with
  | nil => simp [cnt]
  | cons p L ih =>
    have := covers_le p.1 p.2 i
    simp only [cnt, List.map_cons, List.sum_cons, List.length_cons] at ih ⊢
    omega
theorem cnt_snoc (L : List (Nat × Nat)) (p : Nat × Nat) (i : Nat) : cnt (L ++ [p]) i = cnt L i + covers p.1 p.2 i := by simp [cnt]
theorem cnt_next (L : List (Nat × Nat)) (j : Nat) (p : Nat × Nat) (h : L[j]? = some p) (i : Nat) : cnt (L.take (j + 1)) i = cnt (L.take j) i + covers p.1 p.2 i := by
  obtain ⟨h1, h2⟩ := List.getElem?_eq_some_iff.1 h
  rw [List.take_succ_eq_append_getElem h1, h2, cnt_snoc]
theorem copP_length (q l k : Nat) : (copP q l k).length = k := by rw [← List.length_map (f := fun p : Nat × Nat => nd p.1 p.2), copP_nd, copL_length]
theorem copP_in (q l k : Nat) (hq : q < 2 ^ k) : ∀ p ∈ copP q l k, p.2 ≤ l + k ∧ p.1 < 2 ^ (l + k - p.2) := by
  induction k generalizing q l with
  | zero => intro p hp; simp [copP] at hp
  | succ k ih =>
    intro p hp
    simp only [copP, List.mem_cons] at hp
    rcases hp with rfl | hp
    · refine ⟨by show l ≤ _; omega, ?_⟩
      show sbq q < 2 ^ (l + (k + 1) - l)
      rw [Nat.add_sub_cancel_left]
      exact sbq_lt hq
    · have h := ih (q / 2) (l + 1) (by rw [pow1] at hq; omega) p hp
      rw [show l + 1 + k = l + (k + 1) by omega] at h
      exact h
/-- A part's leaves: its first, and the one behind its last. -/
theorem part_nums {Q L h N : Nat} (hL : L ≤ h) (hQ : Q < 2 ^ (h - L)) (hN : N = 2 ^ h) : Q * 2 ^ L < (Q + 1) * 2 ^ L ∧ (Q + 1) * 2 ^ L ≤ N := by
  have hp := Nat.two_pow_pos L
  have h1 : (Q + 1) * 2 ^ L ≤ 2 ^ (h - L) * 2 ^ L := Nat.mul_le_mul_right _ hQ
  rw [← Nat.pow_add, show h - L + L = h by omega] at h1
  rw [Nat.add_mul, Nat.one_mul] at *
  omega
theorem cover_low (hA : AliveOk) (x n : Int) (w : World) (hF : ∀ W, Calls Try.prog 18 #[.int .i64 n] W (RetB W (fitB n))) (h0 : n < 1) : Calls Try.prog 6 #[.int .i64 x, .int .i64 n] w (RetB w true) := by
  have HA := hid hA
  have HF := hid hF
  clear hA hF
  have HB0 : Hid (Below w.heap.size w w) := hid (Below.refl _ _)
  go_enter Try.func6, Try.ntmps6
  go_wp2_with fail
  refine (HA.out w).mono ?_
  rintro e w1 ⟨rfl, hb⟩
  have HB1 : Hid (Below w.heap.size w w1) := hid (HB0.out.trans (hb.mono HB0.out.size))
  clear hb HB0
  go_wp2
  go_ret
  exact ⟨rfl, HB1.out⟩
theorem cover_big (hA : AliveOk) (x n : Int) (w : World) (hF : ∀ W, Calls Try.prog 18 #[.int .i64 n] W (RetB W (fitB n))) (h0 : ¬ n < 1) (h1 : 1024 < n) : Calls Try.prog 6 #[.int .i64 x, .int .i64 n] w (RetB w true) := by
  have HA := hid hA
  have HF := hid hF
  clear hA hF
  have HB0 : Hid (Below w.heap.size w w) := hid (Below.refl _ _)
  go_enter Try.func6, Try.ntmps6
  go_wp2_with fail
  refine (HA.out w).mono ?_
  rintro e w1 ⟨rfl, hb⟩
  have HB1 : Hid (Below w.heap.size w w1) := hid (HB0.out.trans (hb.mono HB0.out.size))
  clear hb HB0
  go_wp2
  go_ret
  exact ⟨rfl, HB1.out⟩
theorem cover_no (hA : AliveOk) (x n : Int) (w : World) (hF : ∀ W, Calls Try.prog 18 #[.int .i64 n] W (RetB W (fitB n))) (h0 : ¬ n < 1) (h1 : ¬ 1024 < n) (hf : fitB n = false) : Calls Try.prog 6 #[.int .i64 x, .int .i64 n] w (RetB w true) := by
  have HA := hid hA
  have HF := hid hF
  rw [hf] at HF
  clear hf
  clear hA hF
  have HB0 : Hid (Below w.heap.size w w) := hid (Below.refl _ _)
  go_enter Try.func6, Try.ntmps6
  go_wp2_with fail
  refine (HA.out w).mono ?_
  rintro e w1 ⟨rfl, hb⟩
  have HB1 : Hid (Below w.heap.size w w1) := hid (HB0.out.trans (hb.mono HB0.out.size))
  clear hb HB0
  go_wp2_with fail
  refine (HF.out w1).mono ?_
  rintro e w2 ⟨rfl, hb⟩
  have HB2 : Hid (Below w.heap.size w w2) := hid (HB1.out.trans (hb.mono HB1.out.size))
  clear hb HB1
  go_wp2
  go_ret
  exact ⟨rfl, HB2.out⟩
theorem cover_neg (hA : AliveOk) (x n : Int) (w : World) (hF : ∀ W, Calls Try.prog 18 #[.int .i64 n] W (RetB W (fitB n))) (h0 : ¬ n < 1) (h1 : ¬ 1024 < n) (hf : fitB n = true) (h2 : x < 0) : Calls Try.prog 6 #[.int .i64 x, .int .i64 n] w (RetB w true) := by
  have HA := hid hA
  have HF := hid hF
  rw [hf] at HF
  clear hf
  clear hA hF
  have HB0 : Hid (Below w.heap.size w w) := hid (Below.refl _ _)
  go_enter Try.func6, Try.ntmps6
  go_wp2_with fail
  refine (HA.out w).mono ?_
  rintro e w1 ⟨rfl, hb⟩
  have HB1 : Hid (Below w.heap.size w w1) := hid (HB0.out.trans (hb.mono HB0.out.size))
  clear hb HB0
  go_wp2_with fail
  refine (HF.out w1).mono ?_
  rintro e w2 ⟨rfl, hb⟩
  have HB2 : Hid (Below w.heap.size w w2) := hid (HB1.out.trans (hb.mono HB1.out.size))
  clear hb HB1
  go_wp2
  go_ret
  exact ⟨rfl, HB2.out⟩
theorem cover_off (hA : AliveOk) (x n : Int) (w : World) (hF : ∀ W, Calls Try.prog 18 #[.int .i64 n] W (RetB W (fitB n))) (h0 : ¬ n < 1) (h1 : ¬ 1024 < n) (hf : fitB n = true) (h2 : ¬ x < 0) (h3 : 2 * n - 2 < x) : Calls Try.prog 6 #[.int .i64 x, .int .i64 n] w (RetB w true) := by
  have HA := hid hA
  have HF := hid hF
  rw [hf] at HF
  have hw1 : wrap64 (2 * n) = 2 * n := wrap64_in (by omega) (by omega)
  have hw2 : wrap64 (2 * n - 2) = 2 * n - 2 := wrap64_in (by omega) (by omega)
  clear hf
  clear hA hF
  have HB0 : Hid (Below w.heap.size w w) := hid (Below.refl _ _)
  go_enter Try.func6, Try.ntmps6
  go_wp2_with fail
  refine (HA.out w).mono ?_
  rintro e w1 ⟨rfl, hb⟩
  have HB1 : Hid (Below w.heap.size w w1) := hid (HB0.out.trans (hb.mono HB0.out.size))
  clear hb HB0
  go_wp2_with fail
  refine (HF.out w1).mono ?_
  rintro e w2 ⟨rfl, hb⟩
  have HB2 : Hid (Below w.heap.size w w2) := hid (HB1.out.trans (hb.mono HB1.out.size))
  clear hb HB1
  go_wp2
  go_ret
  exact ⟨rfl, HB2.out⟩
set_option maxHeartbeats 4000000 in
theorem cover_in (hA : AliveOk) (q l k : Nat) (hq : q < 2 ^ k) (hk : l + k ≤ 10) (X N : Nat) (hx : X = nd q l) (hN : N = 2 ^ (l + k)) (w : World) (hF : ∀ W, Calls Try.prog 18 #[.int .i64 (N : Int)] W (RetB W true))
    (hC : ∀ W, Calls Try.prog 27 #[.int .i64 (X : Int), .int .i64 (N : Int)] W (RetN W k (copL q l k)))
    (hS : ∀ Q L W, L ≤ l + k → Q < 2 ^ (l + k - L) → Calls Try.prog 11 #[.int .i64 (nd Q L : Int)] W (RetII W ((Q * 2 ^ L : Nat) : Int) (((Q + 1) * 2 ^ L - 1 : Nat) : Int))) :
    Calls Try.prog 6 #[.int .i64 (X : Int), .int .i64 (N : Int)] w (RetB w true) := by
  obtain ⟨i0, hi, hz0, hz1, hz2⟩ := info_parts infoI64
  have HA := hid hA; have HF := hid hF; have HC := hid hC; have HS := hid hS
  have hn1 := Nat.one_le_two_pow (n := l + k)
  have hn2 : 2 ^ (l + k) ≤ 2 ^ 10 := Nat.pow_le_pow_right (by decide) hk
  rw [← hN] at hn1 hn2
  have hn3 : N ≤ 1024 := hn2
  have hbx := hi_bound (l := l) hq
  have hbx2 := le_hi q l
  rw [← hx] at hbx2
  rw [← hN] at hbx
  obtain ⟨P, hP⟩ : ∃ P, P = (q, l) :: copP q l k := ⟨_, rfl⟩
  have HPL : Hid (P.length = k + 1) := hid (by rw [hP, List.length_cons, copP_length])
  have HPN : Hid (X :: copL q l k = P.map fun p => nd p.1 p.2) := hid (by rw [hP, List.map_cons, copP_nd, hx])
  have HPI : Hid (∀ (j : Nat) (p : Nat × Nat), P[j]? = some p → p.2 ≤ l + k ∧ p.1 < 2 ^ (l + k - p.2)) := hid fun j p hp => by
    have hm := List.mem_of_getElem? hp
    rw [hP, List.mem_cons] at hm
    rcases hm with rfl | hm
    · exact ⟨Nat.le_add_right _ _, by rw [Nat.add_sub_cancel_left]; exact hq⟩
    · exact copP_in q l k hq p hm
  have HALL : Hid (∀ i, i < N → cnt P i = 1) := hid fun i hi => by rw [hP]; exact cnt_all q l k i hq (by rw [← hN]; exact hi)
  have HNN : Hid (N = 2 ^ (l + k)) := hid hN
  have HK : Hid (k ≤ 10) := hid (by omega)
  have HN3 : Hid (1 ≤ N ∧ N ≤ 1024) := hid ⟨hn1, hn3⟩
  have g1 : ¬ N < 1 := by omega
  have g1' : ¬ (N : Int) < 1 := by omega
  have g2 : ¬ 1024 < N := by omega
  have g2' : ¬ (1024 : Int) < (N : Int) := by omega
  have g3 : ¬ 2 * (N : Int) - 2 < (X : Int) := by omega
  have hw1 : wrap64 (2 * (N : Int)) = 2 * (N : Int) := wrap64_in (by omega) (by omega)
  have hw2 : wrap64 (2 * (N : Int) - 2) = 2 * (N : Int) - 2 := wrap64_in (by omega) (by omega)
  clear hA hF hC hS hn1 hn2 hn3 hbx hbx2 hP hx hN hq hk
  have HB0 : Hid (Below w.heap.size w w) := hid (Below.refl _ _)
  go_enter Try.func6, Try.ntmps6
  go_wp2_with fail
  refine (HA.out w).mono ?_
  rintro e w1 ⟨rfl, hb⟩
  have HB1 := hid hb
  clear hb HA HB0
  go_wp2_with fail
  refine (HF.out w1).mono ?_
  rintro e w2 ⟨rfl, hb⟩
  have HB2 : Hid (Below w.heap.size w w2) := hid (HB1.out.trans (hb.mono HB1.out.size))
  clear hb HF HB1
  go_wp2_with (at_make; refine wpList_make_full _ rfl _ _ 33 rfl w2.heap.size 3 i0 (.int .i64 0) 1 Try.underlying33 hi hz0 hz1 _ _ _ _ N rfl rfl ?c0 ?c1 ?c2 ?c3 ?c4 ?_)
  case c0 => omega
  case c1 => have := HN3.out; omega
  case c2 => rw [hz2]; have := HN3.out; omega
  case c3 => have := HN3.out; unfold maxLen; omega
  case c4 => exact Nat.le_refl _
  intro w3 hown hg
  obtain ⟨hrow, _⟩ := own_row hown
  have hb3 : Below w2.heap.size w2 w3 := below_of_grown hg (Nat.le_refl _) (fun _ h => by cases h)
  have hcs : (madeCells #[Value.int .i64 0] N).toList = ivs (List.replicate N 0) := by rw [ivs_zeros]; exact toList_madeCells_one _ _
  rw [hcs] at hrow
  have HROW := hid hrow; have HB3 := hid (HB2.out.trans (hb3.mono HB2.out.size))
  have hlt3 : w2.heap.size < w3.heap.size := block_lt hrow
  obtain ⟨G, hG⟩ : ∃ G, G = w2.heap.size := ⟨_, rfl⟩
  have HG : Hid (w.heap.size ≤ G) := hid (by rw [hG]; exact HB2.out.size)
  rw [← hG] at HROW hlt3 ⊢
  clear hown hg hrow hb3 hcs hi hz0 hz1 hz2 hG HB2
  go_wp2_with fail
  refine (HC.out _).mono ?_
  rintro e w4 ⟨A4, c4, rfl, hq4, hb⟩
  have HO4 : Hid (OwnI w4 w3.heap.size (.slice (some ⟨w3.heap.size, 0, none⟩) 1 1) [X]) := hid (own_onI (World.ownsRow_lit w3 #[.int .i64 (X : Int)] 1 (Nat.le_refl _) (by decide) rfl) hb)
  have HROW4 := hid ((hb.block G (by simp; omega)).trans ((Below.heap_alloc w3 (.cells #[.int .i64 (X : Int)] 3) G hlt3).trans HROW.out))
  have HB4 : Hid (Below w.heap.size w w4) := hid ((HB3.out.alloc HB3.out.size _).trans (hb.mono (by have := HB3.out.size; simp; omega)))
  have hs4 : w3.heap.size ≤ w4.heap.size := by have := hb.size; simp at this; omega
  have HQ4 := hid hq4
  clear hb hq4 HC HROW HB3
  go_wp2_with (at_builtin; refine wpList_append_lie rfl _ _ 33 rfl w3.heap.size 3 (.int .i64 0) 8 Try.underlying33 infoI64 rfl rfl HO4.out (by rw [ivs_length, copL_length]) rfl HQ4.out.lie (ivs_one _) ?d1 ?d2 hs4 ?_)
  case d1 => have := HK.out; unfold maxLen; simp; omega
  case d2 => have := HK.out; simp; omega
  intro v5 w5 hown5 hg5 _
  have hO5 : w5.ownsRow w3.heap.size 3 1 v5 (1 + k) (ivs (X :: copL q l k)) := by simpa [ivs] using hown5
  have HB5 := hid (HB4.out.grown hg5 HB4.out.size (by intro b hb; have h2 := own_lt HO4.out b hb; have h3 := HG.out; omega))
  have HROW5 := hid (block_grown HROW4.out hg5 (by intro h; have h2 := own_lt HO4.out G h.symm; omega))
  rcases hO5.2 with ⟨-, h0⟩ | ⟨b5, cap, cur, rfl, hb5, hcur, hc1, hc2, hc3, hc4⟩
  · omega
  have HCUR := hid hcur
  have HCELL : Hid (∀ (j : Nat) (p : Nat × Nat), P[j]? = some p → cur[j]? = some (.int .i64 (nd p.1 p.2 : Int))) := hid fun j p hp => by
    have hj := (List.getElem?_eq_some_iff.1 hp).1
    have h1 : (ivs (X :: copL q l k))[j]? = some (.int .i64 (nd p.1 p.2 : Int)) := by
      rw [HPN.out]
      unfold ivs
      rw [List.map_map, List.getElem?_map, hp]
      rfl
    rw [← hc4, List.getElem?_take] at h1
    split at h1
    · simpa using h1
    · cases h1
  have hgb : G < b5 := by omega
  have hcap : k < cap := by omega
  have h1k : (1 + k : Nat) = k + 1 := Nat.add_comm _ _
  rw [h1k]
  clear hown5 hg5 hO5 HROW4 HB4 HO4 HQ4 hs4 hcur hc1 hc2 hc3 hc4 h1k hlt3 hb5 g1 g1' g2 g2' g3 hw1 hw2
  go_wp2
  go_loopg [7] (k + 1) (fun r c wr => ∃ (j : Nat) (L : List Nat), j + r = k + 1 ∧ c = .int .i64 (j : Int) ∧ wr.heap[G]? = some (.cells (ivs L).toArray 3 (0, 0)) ∧ L.length = N ∧ (∀ i, i < N → L.getD i 0 = cnt (P.take j) i) ∧ wr.heap[b5]? = some (.cells cur 3 (0, 0)) ∧ Below w.heap.size w wr)
  case atStart =>
    refine ⟨0, List.replicate N 0, by omega, rfl, HROW5.out, by simp, fun i hi => ?_, HCUR.out, HB5.out⟩
    rw [List.take_zero, List.getD_eq_getElem?_getD, List.getElem?_replicate]
    split <;> rfl
  case round =>
    clear HROW5 HCUR HB5
    obtain ⟨j, L, hj, rfl, hrow, hL, hD, hcur, hb⟩ := hrel
    have HJ := hid hj; have HROW := hid hrow; have HL := hid hL; have HD := hid hD; have HCUR := hid hcur; have HB := hid hb
    clear hj hrow hL hD hcur hb
    have hk10 := HK.out
    by_cases hlt : j < k + 1
    · have hcut : (∀ i, i < N → cnt (P.take j) i ≤ 11) := fun i _ => Nat.le_trans (cnt_le _ _) (by rw [List.length_take, HPL.out]; exact Nat.le_trans (Nat.min_le_right _ _) (by omega))
      obtain ⟨⟨Q, Lv⟩, hp⟩ : ∃ p, P[j]? = some p := ⟨_, List.getElem?_eq_getElem (by rw [HPL.out]; exact hlt)⟩
      obtain ⟨hp1, hp2⟩ := HPI.out j _ hp
      have hpn := part_nums hp1 hp2 HNN.out
      have hcell := cell_of HCUR.out j _ (HCELL.out j _ hp)
      have hsp := fun W => HS.out Q Lv W hp1 hp2
      have hnx : ∀ i, cnt (P.take (j + 1)) i = cnt (P.take j) i + covers Q Lv i := fun i => cnt_next P j _ hp i
      have hcv : ∀ i, covers Q Lv i = if Q * 2 ^ Lv ≤ i ∧ i < (Q + 1) * 2 ^ Lv then 1 else 0 := fun i => rfl
      obtain ⟨y, hy⟩ : ∃ y, y = nd Q Lv := ⟨_, rfl⟩
      obtain ⟨F, hF⟩ : ∃ y, y = Q * 2 ^ Lv := ⟨_, rfl⟩
      obtain ⟨E, hE⟩ : ∃ y, y = (Q + 1) * 2 ^ Lv := ⟨_, rfl⟩
      obtain ⟨T, hT⟩ : ∃ y, y = (Q + 1) * 2 ^ Lv - 1 := ⟨_, rfl⟩
      simp only [← hy] at hcell
      rw [← hy, ← hF, ← hT] at hsp
      rw [← hF, ← hE] at hpn
      rw [← hF, ← hE] at hcv
      rw [← hE] at hT
      have HSP := hid hsp; have HNX := hid hnx; have HCV := hid hcv; have HT := hid hT; have HFE := hid hpn
      have HLT := hid hlt
      have hji : (j : Int) < (k : Int) + 1 := by omega
      have hj0 : (0 : Int) ≤ (j : Int) := by omega
      have f1 : ¬ (F : Int) < 0 := by omega
      have f2 : ¬ (N : Int) ≤ (T : Int) := by omega
      have f2' : ¬ N ≤ T := by omega
      have f3 : ¬ (T : Int) < (F : Int) := by omega
      have f3' : ¬ T < F := by omega
      have hjw : wrap64 ((j : Int) + 1) = (j : Int) + 1 := wrap_succ (by have := HK.out; omega)
      have HCUT := hid hcut
      have hblt := block_lt HCUR.out
      clear hy hF hE hT hsp hnx hcv hp hp1 hp2 hpn hcut hk10
      go_wp2_with fail
      refine (HSP.out wr).mono ?_
      rintro e w6 ⟨rfl, hb⟩
      have HB6 := hid (HB.out.trans (hb.mono HB.out.size))
      have HROW6 := hid ((hb.block G (block_lt HROW.out)).trans HROW.out)
      have HCUR6 := hid ((hb.block b5 (block_lt HCUR.out)).trans HCUR.out)
      clear hb HB HROW HCUR HSP hcell hblt
      go_wp2
      clear f1 f2 f2' f3 f3' hjw
      go_loopg [10] (E - F) (fun r c wr => ∃ (t : Nat) (L : List Nat), t + r = E ∧ F ≤ t ∧ c = .int .i64 (t : Int) ∧ wr.heap[G]? = some (.cells (ivs L).toArray 3 (0, 0)) ∧ L.length = N ∧ (∀ i, i < N → L.getD i 0 = cnt (P.take j) i + (if F ≤ i ∧ i < t then 1 else 0)) ∧ wr.heap[b5]? = some (.cells cur 3 (0, 0)) ∧ Below w.heap.size w wr)
      case atStart =>
        have hfe := HFE.out
        refine ⟨F, L, by omega, Nat.le_refl _, rfl, HROW6.out, HL.out, fun i hi => ?_, HCUR6.out, HB6.out⟩
        rw [HD.out i hi, if_neg (by omega), Nat.add_zero]
      case round =>
        clear HROW6 HCUR6 HB6 HL HD
        obtain ⟨t, L, ht, hft, rfl, hrow, hL, hD, hcur, hb⟩ := hrel
        have HTT := hid ht; have HROW := hid hrow; have HL := hid hL; have HD := hid hD; have HCUR := hid hcur; have HB := hid hb; have HFT := hid hft
        clear ht hL hD hcur hb hft
        by_cases hlt2 : t < E
        · have htn : t < N := Nat.lt_of_lt_of_le hlt2 HFE.out.2
          have hle : (t : Int) ≤ (T : Int) := by have := HT.out; omega
          have hle' : t ≤ T := by have := HT.out; omega
          have ht0 : (0 : Int) ≤ (t : Int) := by omega
          have htn2 : (t : Int) < (N : Int) := by omega
          have hco := ivs_cell hrow t (by rw [HL.out]; exact htn)
          have hfz : wr.frozen? ⟨G, t, none⟩ = false := frozen_of_row _ _ _ _ _ hrow
          obtain ⟨z, hz⟩ : ∃ z, z = L.getD t 0 := ⟨_, rfl⟩
          have hz2 : z = cnt (P.take j) t := by rw [hz, HD.out t htn, if_neg (by omega), Nat.add_zero]
          have hz11 : z ≤ 11 := by rw [hz2]; exact HCUT.out t htn
          rw [← hz] at hco
          have hrow2 := block_set hrow t (.int .i64 ((z + 1 : Nat) : Int))
          rw [ivs_set] at hrow2
          have hcur2 : (wr.setCell ⟨G, t, none⟩ (.int .i64 ((z + 1 : Nat) : Int))).heap[b5]? = some (.cells cur 3 (0, 0)) := by
            rw [Below.heap_setCell wr ⟨G, t, none⟩ _ b5 (by show b5 ≠ G; omega)]; exact HCUR.out
          have hD2 : ∀ i, i < N → (L.set t (z + 1)).getD i 0 = cnt (P.take j) i + (if F ≤ i ∧ i < t + 1 then 1 else 0) := fun i hi => by
            rw [List.getD_eq_getElem?_getD, List.getElem?_set]
            have hft := HFT.out
            by_cases he : t = i
            · subst he
              rw [if_pos rfl, if_pos (by rw [HL.out]; exact htn), if_pos (by omega), hz2]
              rfl
            · rw [if_neg he, ← List.getD_eq_getElem?_getD, HD.out i hi]
              by_cases hc : F ≤ i ∧ i < t
              · rw [if_pos hc, if_pos (by omega)]
              · rw [if_neg hc, if_neg (by omega)]
          have hzw : wrap64 ((z : Int) + 1) = (z : Int) + 1 := wrap_succ (by omega)
          have htw : wrap64 ((t : Int) + 1) = (t : Int) + 1 := wrap64_in (by omega) (by have := HN3.out; omega)
          have hzc : ((z + 1 : Nat) : Int) = (z : Int) + 1 := by omega
          rw [hzc] at hrow2 hcur2
          have HR2 := hid hrow2; have HC2 := hid hcur2; have HD2 := hid hD2; have HLT2 := hid hlt2
          have HL2 : Hid ((L.set t (z + 1)).length = N) := hid (by rw [List.length_set]; exact HL.out)
          clear hz hz2 hz11 hrow hrow2 hcur2 hD2 hzc htn hle' hlt2 HROW HCUR HD HL
          go_wp2
          have ht := HTT.out; have hlt2 := HLT2.out
          clear hzw htw hco hfz hle ht0 htn2
          go_roundg (E - t - 1)
          case measure => omega
          case rel => exact ⟨t + 1, _, by omega, by have := HFT.out; omega, by first | rfl | (rw [wrap64_in (x := (t : Int) + 1) (by omega) (by have := HN3.out; have := HFE.out; omega)]; rfl), HR2.out, HL2.out, HD2.out, HC2.out, HB.out.setCell HG.out _⟩
        · have hte : t = E := by have := HTT.out; omega
          have hle : ¬ (t : Int) ≤ (T : Int) := by have := HT.out; have := HFE.out; omega
          have hle' : ¬ t ≤ T := by have := HT.out; have := HFE.out; omega
          have HD2 : Hid (∀ i, i < N → L.getD i 0 = cnt (P.take (j + 1)) i) := hid fun i hi => by
            rw [HD.out i hi, HNX.out, HCV.out, hte]
          clear hrow hlt2 hte HD
          go_wp2
          have hj := HJ.out; have hlt := HLT.out
          clear hle hle' hji hj0
          go_roundg (k + 1 - j - 1)
          case measure => omega
          case rel => exact ⟨j + 1, L, by omega, by first | rfl | (rw [wrap_succ (by have := HK.out; omega)]; rfl), HROW.out, HL.out, HD2.out, HCUR.out, HB.out⟩
    · have hje : j = k + 1 := by have := HJ.out; omega
      have hji : ¬ (j : Int) < (k : Int) + 1 := by omega
      have hji' : ¬ j < k + 1 := hlt
      have HD1 : Hid (∀ i, i < N → L.getD i 0 = 1) := hid fun i hi => by
        rw [HD.out i hi, List.take_of_length_le (by rw [HPL.out, hje]; exact Nat.le_refl _)]; exact HALL.out i hi
      clear HD hlt hje HJ HCUR
      go_wp2
      clear hji hji'
      go_loopg [11] N (fun r c wz => ∃ i : Nat, i + r = N ∧ c = .int .i64 (i : Int) ∧ wz = wr)
      case atStart => exact ⟨0, by omega, rfl, rfl⟩
      case round =>
        obtain ⟨i, hi, rfl, hwz⟩ := hrel
        subst hwz
        have HI := hid hi
        by_cases hlt : i < N
        · have hii : (i : Int) < (N : Int) := by omega
          have hi0 : (0 : Int) ≤ (i : Int) := by omega
          have hco := ivs_cell HROW.out i (by rw [HL.out]; exact hlt)
          rw [HD1.out i hlt] at hco
          have HLT := hid hlt
          have hwi : wrap64 ((i : Int) + 1) = (i : Int) + 1 := wrap64_in (by omega) (by have := HN3.out; omega)
          clear hi
          go_wp2
          have hi := HI.out; have hlt := HLT.out
          clear hco hwi hii hi0
          go_roundg (N - i - 1)
          case measure => omega
          case rel => exact ⟨i + 1, by omega, by first | rfl | (rw [wrap64_in (x := (i : Int) + 1) (by omega) (by have := HN3.out; omega)]; rfl), rfl⟩
        · have hii : ¬ (i : Int) < (N : Int) := by omega
          clear hi HI
          go_wp2
          go_ret
          exact ⟨rfl, HB.out⟩
theorem walkCover_any (hA : AliveOk) (hF : WFits) (hC : WCopath) (hS : WSpan) (x n : Int) (w : World) (hx : I64 x) (hn : I64 n) : Calls Try.prog 6 #[.int .i64 x, .int .i64 n] w (RetB w true) := by
  by_cases h0 : n < 1
  · exact cover_low hA x n w (fun W => hF n W hn) h0
  by_cases h1 : 1024 < n
  · exact cover_big hA x n w (fun W => hF n W hn) h0 h1
  by_cases hf : fitB n = true
  · by_cases h2 : x < 0
    · exact cover_neg hA x n w (fun W => hF n W hn) h0 h1 hf h2
    · by_cases h3 : 2 * n - 2 < x
      · exact cover_off hA x n w (fun W => hF n W hn) h0 h1 hf h2 h3
      · obtain ⟨q, l, k, hq, hk, rfl, rfl⟩ := inT_of hf (by omega) (by omega : x ≤ 2 * n - 2)
        have hk10 : l + k ≤ 10 := by
          rcases Nat.lt_or_ge 10 (l + k) with h | h
          · have h2 : 2 ^ 11 ≤ 2 ^ (l + k) := Nat.pow_le_pow_right (by decide) h
            omega
          · exact h
        refine cover_in hA q l k hq hk10 _ _ rfl rfl w (fun W => ?_) (fun W => retN (copZ_nd hq hk) (hC _ _ W hx hn) (copL_length _ _ _)) (fun Q L W h4 h5 => ?_)
        · have h := hF _ W hn
          rw [hf] at h
          exact h
        · have h6 : Q < 2 ^ (16 - L) := Nat.lt_of_lt_of_le h5 (Nat.pow_le_pow_right (by decide) (by omega))
          have h7 := hi_bound (l := L) h5
          have h8 := le_hi Q L
          rw [show L + (l + k - L) = l + k by omega] at h7
          have h9 : 2 ^ (l + k) ≤ 2 ^ 10 := Nat.pow_le_pow_right (by decide) hk10
          have h := hS (nd Q L : Int) W (i64_small (by omega) (by omega))
          rw [firstZ_nd h6 (by omega), lastZ_nd h6 (by omega)] at h
          exact h
  · exact cover_no hA x n w (fun W => hF n W hn) h0 h1 (by simpa using hf)
end Go.Proofs.Ytaoddlcoedodcaa
