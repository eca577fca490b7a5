/-
  Texts of this claim in one file: Ref14a, Ref14c.
-/
import Derived.Test.YthooibljnfnnhaaPk1
import Derived.Test.YthooibljnfnnhaaPk2
import Derived.Test.YthooibljnfnnhaaPk27
import Derived.Test.YthooibljnfnnhaaPk4
section
namespace Go.Proofs.Ythooibljnfnnhaa
open Go Go.RowKit
set_option linter.unusedVariables false
set_option linter.unusedSimpArgs false
/-- Numbers of leaves. -/
def fitB (n : Int) : Bool := (List.range 17).any fun h => n == ((2 ^ h : Nat) : Int)
theorem fitB_iff (n : Int) : fitB n = true ↔ ∃ h, h ≤ 16 ∧ n = ((2 ^ h : Nat) : Int) := by
  unfold fitB
  rw [List.any_eq_true]
  constructor
  · rintro ⟨h, h1, h2⟩
    exact ⟨h, by have := List.mem_range.1 h1; omega, by simpa using h2⟩
  · rintro ⟨h, h1, h2⟩
    exact ⟨h, List.mem_range.2 (by omega), by simpa using h2⟩
theorem fitB_pow {h : Nat} (hh : h ≤ 16) : fitB ((2 ^ h : Nat) : Int) = true := (fitB_iff _).2 ⟨h, hh, rfl⟩
theorem pow_le16 {h : Nat} (hh : h ≤ 16) : 2 ^ h ≤ 65536 := Nat.pow_le_pow_right (by decide) hh
theorem wrap64_in {x : Int} (h1 : -1000000000 ≤ x) (h2 : x ≤ 1000000000) : wrap64 x = x := by unfold wrap64; omega
theorem Fits14_any (n : Int) (w : World) : Calls Try.prog 101 #[.int .i64 n] w fun e w' => e = .returned (.bool (fitB n)) ∧ w' = w := by
  go_enter Try.func101, Try.ntmps101
  go_wp2
  go_loopg [3] 17 (fun r p wr => ∃ i : Nat, i + r = 17 ∧ p = .int .i64 ((2 ^ i : Nat) : Int) ∧ (∀ j, j < i → n ≠ ((2 ^ j : Nat) : Int)) ∧ w = wr)
  case atStart => exact ⟨0, rfl, rfl, fun j hj => by omega, rfl⟩
  case round =>
    obtain ⟨i, hi, rfl, hno, rfl⟩ := hrel
    have HI := hid hi; have HNO := hid hno
    by_cases hlt : i ≤ 16
    · have hp := pow_le16 hlt
      have hp2 : ((2 ^ (i + 1) : Nat) : Int) = 2 * ((2 ^ i : Nat) : Int) := by rw [pow1]; omega
      have hf : n = ((2 ^ i : Nat) : Int) → fitB n = true := fun h => by rw [h]; exact fitB_pow hlt
      have HP2 := hid hp2; have HF := hid hf
      clear hi hno hp2 hf
      obtain ⟨P, hP⟩ : ∃ P, P = 2 ^ i := ⟨_, rfl⟩
      have HP := hid hP
      rw [← hP] at hp ⊢
      clear hP
      have hle : (P : Int) ≤ 65536 := by omega
      by_cases he : (P : Int) = n
      · have HE := hid he
        go_wp2
        go_ret
        exact ⟨by rw [HF.out (by rw [← HE.out, HP.out])]; rfl, rfl⟩
      · have hw : wrap64 (2 * (P : Int)) = 2 * (P : Int) := wrap64_in (by omega) (by omega)
        have HE := hid he
        go_wp2
        have hi := HI.out
        go_roundg (17 - i - 1)
        case measure => omega
        case rel =>
          refine ⟨i + 1, by omega, ?_, ?_, rfl⟩
          · rw [HP2.out, ← HP.out]
          · intro j hj
            rcases Nat.lt_or_ge j i with h | h
            · exact HNO.out j h
            · obtain rfl : j = i := by omega
              rw [← HP.out]; exact fun h => HE.out h.symm
    · obtain rfl : i = 17 := by omega
      have hf : fitB n = false := by
        rw [Bool.eq_false_iff]
        intro h
        obtain ⟨j, h1, h2⟩ := (fitB_iff n).1 h
        exact hno j (by omega) h2
      have HF := hid hf
      have hlit : ((2 ^ 17 : Nat) : Int) = 131072 := by decide
      rw [hlit]
      clear hi hno hf hlit HNO HI
      go_wp2
      go_ret
      exact ⟨by rw [HF.out]; rfl, rfl⟩
abbrev TN : TypeId := 70
theorem infoTN : (Try.prog.info? TN).map (fun i => (i.zero, i.size, i.bytes)) = some (some (.agg #[.int .i64 0, .int .i64 0, .int .i64 0]), 3, 24) := by kernel_rfl
/-- A node's three cells; those of many. -/
def tri (p : Nat × Nat) : List Value := [.int .i64 (nd p.1 p.2 : Int), .int .i64 (loN p.1 p.2 : Int), .int .i64 (hiN p.1 p.2 : Int)]
def trs (L : List (Nat × Nat)) : List Value := L.flatMap tri
theorem tri_length (p : Nat × Nat) : (tri p).length = 3 := rfl
theorem trs_append (L M : List (Nat × Nat)) : trs (L ++ M) = trs L ++ trs M := by simp [trs]
theorem trs_one (p : Nat × Nat) : trs [p] = tri p := by simp [trs]
theorem trs_get (L : List (Nat × Nat)) (i j : Nat) (p : Nat × Nat) (u : Value) (hp : L[i]? = some p) (hu : (tri p)[j]? = some u) : (trs L)[i * 3 + j]? = some u := by
  have hj : j < 3 := (List.getElem?_eq_some_iff.1 hu).1
  induction L generalizing i with
  | nil => simp at hp
  | cons q L ih =>
    rw [trs, List.flatMap_cons]
    cases i with
    | zero =>
      simp only [List.getElem?_cons_zero, Option.some.injEq] at hp
      subst hp
      rw [Nat.zero_mul, Nat.zero_add, List.getElem?_append_left hj]
      exact hu
    | succ i =>
      rw [List.getElem?_append_right (by rw [tri_length]; omega), tri_length, show (i + 1) * 3 + j - 3 = i * 3 + j by omega]
      exact ih i (by simpa using hp)
theorem tri_one (p : Nat × Nat) : ∀ u ∈ tri p, u.oneCell' = true := by
  intro u hu
  simp only [tri, List.mem_cons, List.not_mem_nil, or_false] at hu
  rcases hu with rfl | rfl | rfl <;> rfl
def OwnT (w : World) (B : Nat) (v : Value) (L : List (Nat × Nat)) : Prop := w.ownsRow B TN 3 v L.length (trs L)
theorem ownt_nil (w : World) (B : Nat) : OwnT w B (.slice none 0 0) [] := ⟨rfl, .inl ⟨rfl, rfl⟩⟩
/-- Nodes that lie: a slice's address, and its cells. -/
def LieT (w : World) (b c : Nat) (L : List (Nat × Nat)) : Prop := b < w.heap.size ∧ L.length ≤ c ∧ c ≤ 9223372036854775807 ∧ ∀ i p, L[i]? = some p → ∀ j u, (tri p)[j]? = some u → w.cell? ⟨b, i * 3 + j, none⟩ = some u
theorem ownt_lie {w : World} {B : Nat} {v : Value} {L : List (Nat × Nat)} (h : OwnT w B v L) (h0 : 0 < L.length) : ∃ b c, v = .slice (some ⟨b, 0, none⟩) L.length c ∧ LieT w b c L := by
  have hh := h
  rcases h.2 with ⟨rfl, h2⟩ | ⟨g, cap, cur, rfl, hb, hg, h1, h2, h3, h4⟩
  · omega
  · refine ⟨g, cap, rfl, (Array.getElem?_eq_some_iff.1 hg).1, h1, by unfold maxLen at h2; omega, fun i p hp j u hu => ?_⟩
    exact hh.cellAt (i * 3 + j) (by have hi := (List.getElem?_eq_some_iff.1 hp).1; have hj : j < 3 := (List.getElem?_eq_some_iff.1 hu).1; omega) |>.trans (trs_get L i j p u hp hu)
theorem LieT.on {w w' : World} {b c : Nat} {L : List (Nat × Nat)} (h : LieT w b c L) (hb : Below w.heap.size w w') : LieT w' b c L :=
  ⟨Nat.lt_of_lt_of_le h.1 hb.size, h.2.1, h.2.2.1, fun i p hp j u hu => (hb.cell (p := ⟨b, i * 3 + j, none⟩) h.1).trans (h.2.2.2 i p hp j u hu)⟩
set_option maxHeartbeats 1000000 in
theorem Down14_ok (q l k : Nat) (w : World) (hq : q < 2 ^ k) (hk : l + k ≤ 16) : Calls Try.prog 79 #[.int .i64 (nd q l : Int), .int .i64 ((2 ^ (l + k) : Nat) : Int)] w fun e w' => ∃ b c, e = .returned (.slice (some ⟨b, 0, none⟩) (k + 1) c) ∧ LieT w' b c (chain q l k) ∧ Below w.heap.size w w' := by
  have KF := Fits14_any ((2 ^ (l + k) : Nat) : Int) w
  rw [fitB_pow hk] at KF
  have hn := pow_le16 hk
  have hhb := hi_bound (l := l) hq
  have hx1 := le_hi q l
  obtain ⟨x, hx⟩ : ∃ x, x = nd q l := ⟨_, rfl⟩
  obtain ⟨n, hnn⟩ : ∃ n, n = 2 ^ (l + k) := ⟨_, rfl⟩
  have htop : hiN (q / 2 ^ k) (l + k) = 2 * n - 2 ∧ loN (q / 2 ^ k) (l + k) = 0 := by
    rw [Nat.div_eq_of_lt hq]; unfold hiN loN; rw [pow1, ← hnn]; omega
  rw [← hnn] at KF hn hhb
  rw [← hx, ← hnn]
  rw [← hx] at hx1
  obtain ⟨m, hm⟩ : ∃ m, m = 2 * n - 2 := ⟨_, rfl⟩
  have h1 : decide ((x : Int) < 0) = false := by simp
  have hw1 : wrap64 (2 * (n : Int)) = 2 * (n : Int) := wrap64_in (by omega) (by omega)
  have hw2 : wrap64 (2 * (n : Int) - 2) = (m : Int) := (wrap64_in (by omega) (by omega)).trans (by omega)
  have h2 : ¬ m < x := by omega
  have h3 : decide (m < x) = false := by simp; omega
  rw [← hm] at htop
  have HK := hid KF; have HT := hid htop; have HX := hid hx; have HN := hid hnn; have HQ := hid hq; have HKL := hid hk
  clear KF htop hx hnn hhb hx1 hn hq hk hm
  go_enter Try.func79, Try.ntmps79
  go_wp2_with fail
  refine HK.out.mono ?_
  rintro e w1 ⟨rfl, rfl⟩
  clear HK
  go_wp2_with fail
  go_loopg [5, 6, 7, 8] k (fun r lo hi out mid wr => r ≤ k ∧ lo = .int .i64 (loN (q / 2 ^ r) (l + r) : Int) ∧ hi = .int .i64 (hiN (q / 2 ^ r) (l + r) : Int) ∧ OwnT wr w1.heap.size out ((chain q l k).take (k - r)) ∧ Below w1.heap.size w1 wr)
  case atStart =>
    refine ⟨Nat.le_refl _, ?_, ?_, ?_, Below.refl _ _⟩
    · rw [HT.out.2]; rfl
    · rw [HT.out.1, hw2]
    · rw [Nat.sub_self, List.take_zero]; exact ownt_nil _ _
  case round =>
    clear hw1 hw2 h1 h2 h3 HT
    obtain ⟨hr, rfl, rfl, ho, hb⟩ := hrel
    obtain ⟨Q, hQ⟩ : ∃ Q, Q = q / 2 ^ gk := ⟨_, rfl⟩
    obtain ⟨M, hM⟩ : ∃ M, M = nd (q / 2 ^ gk) (l + gk) := ⟨_, rfl⟩
    obtain ⟨lo, hlo⟩ : ∃ M, M = loN (q / 2 ^ gk) (l + gk) := ⟨_, rfl⟩
    obtain ⟨hi, hhi⟩ : ∃ M, M = hiN (q / 2 ^ gk) (l + gk) := ⟨_, rfl⟩
    have hsum : lo + hi = 2 * M := by rw [hlo, hhi, hM]; exact lo_hi _ _
    have hlm : lo ≤ M := by rw [hlo, hM]; exact lo_le _ _
    have hmh : M ≤ hi := by rw [hhi, hM]; exact le_hi _ _
    have hbd : hi ≤ 131072 := by
      have h := hi_bound (l := l + gk) (div_lt HQ.out hr)
      have h2 := pow_le16 HKL.out
      rw [← hhi, show l + gk + (k - gk) = l + k by omega] at h
      omega
    rw [← hlo, ← hhi]
    have hw3 : wrap64 ((lo : Int) + (hi : Int)) = 2 * (M : Int) := (wrap64_in (by omega) (by omega)).trans (by omega)
    have hq3 : Int.tdiv (2 * (M : Int)) 2 = (M : Int) := Int.mul_tdiv_cancel_left _ (by decide)
    have hq4 : (2 * (M : Int)) / 2 = (M : Int) := by omega
    have hwm : wrap64 (M : Int) = (M : Int) := wrap64_in (by omega) (by omega)
    have hlt : gk = 0 ∨ 0 < gk := by omega
    have HO := hid ho; have HB := hid hb; have HLO := hid hlo; have HHI := hid hhi; have HM := hid hM; have HRK := hid hr
    have HBD : Hid (lo ≤ M ∧ M ≤ hi ∧ hi ≤ 131072) := hid ⟨hlm, hmh, hbd⟩
    have hcell : [Value.int .i64 (M : Int), .int .i64 (lo : Int), .int .i64 (hi : Int)] = tri (q / 2 ^ gk, l + gk) := by unfold tri; rw [hM, hlo, hhi]
    have HC := hid hcell
    have hlen : ((chain q l k).take (k - gk)).length = k - gk := by rw [List.length_take, chain_length]; omega
    have HLN := hid hlen
    obtain ⟨i0, hi0, hz0, hs0, hb0⟩ := info_parts infoTN
    have HI0 : Hid (_ ∧ _ ∧ _ ∧ _) := hid ⟨hi0, hz0, hs0, hb0⟩
    clear ho hb hlo hhi hM hr hsum hlm hmh hbd hcell hlen hi0 hz0 hs0 hb0 hQ
    go_wp2_with (at_builtin; refine wpList_append_own _ rfl _ _ 89 rfl w1.heap.size TN i0 _ 3 24 Try.underlying89 HI0.out.1 HI0.out.2.1 HI0.out.2.2.1 HI0.out.2.2.2 rfl (by decide) _ _ _ rfl (World.ownsRow.alloc HO.out _) _ 1 1 (tri (q / 2 ^ gk, l + gk)) rfl rfl ?d1 (tri_one _) ?d2 ?d3 ?d4 ?_)
    case d1 =>
      intro j u hu
      rw [← HC.out] at hu
      have h := (Lie.newA wr #[Value.int .i64 (M : Int), .int .i64 (lo : Int), .int .i64 (hi : Int)] TN) (by simp)
      obtain ⟨b, o, he, _, hc⟩ := h
      injection he with he
      rw [he]
      have hadd : (⟨b, o, none⟩ : Addr).add j = ⟨b, o + j, none⟩ := by unfold Addr.add; split <;> simp_all
      rw [hadd]
      exact hc j u hu
    case d2 => rw [HLN.out]; have := HKL.out; unfold maxLen; omega
    case d3 => rw [HLN.out]; have := HKL.out; omega
    case d4 => have := HB.out.size; simp; omega
    intro v5 w5 hown5 hg5 _
    have hO5 : OwnT w5 w1.heap.size v5 ((chain q l k).take (k - gk + 1)) := by
      rw [← chain_next q l k gk HRK.out]
      unfold OwnT
      rw [trs_append, List.length_append, trs_one, List.length_take]
      exact hown5
    have hB5 : Below w1.heap.size w1 w5 := (HB.out.alloc HB.out.size _).grown hg5 (by have := HB.out.size; simp; omega) (fun b hb => (World.ownsRow.lt HO.out b hb).1)
    have HO5 := hid hO5; have HB5 := hid hB5
    clear hown5 hg5 hO5 hB5 HO HB HC HI0
    rcases hlt with h0 | h0
    · have hxm : (M : Int) = (x : Int) := by rw [HM.out, HX.out, h0]; simp
      have HO6 : Hid (OwnT w5 w1.heap.size v5 (chain q l k)) := hid (by
        have h := HO5.out
        rw [h0, Nat.sub_zero, List.take_of_length_le (by rw [chain_length]; exact Nat.le_refl _)] at h
        exact h)
      obtain ⟨b, c, hv, hL⟩ := ownt_lie HO6.out (by rw [chain_length]; omega)
      rw [chain_length] at hv
      subst hv
      have HL := hid hL
      clear hL
      go_wp2
      go_ret
      exact ⟨b, c, rfl, HL.out, HB5.out⟩
    · obtain ⟨r, rfl⟩ : ∃ r, gk = r + 1 := ⟨gk - 1, by omega⟩
      have hne : ¬ (M : Int) = (x : Int) := by rw [HM.out, HX.out]; have := up_ne q l r; rw [show l + (r + 1) = l + r + 1 by omega]; omega
      have hrk := HRK.out
      have hpar : (q / 2 ^ r) % 2 = 0 ∨ (q / 2 ^ r) % 2 = 1 := by omega
      have hlr : l + (r + 1) = l + r + 1 := by omega
      have hm' := HM.out; have hlo' := HLO.out; have hhi' := HHI.out
      rw [hlr] at hm' hlo' hhi'
      rcases hpar with hp | hp
      · obtain ⟨h1, h2, h3⟩ := down_left (l := l) hp
        rw [← HX.out, ← hm'] at h1
        rw [← hlo'] at h2
        rw [← hm'] at h3
        have hlx : (x : Int) < (M : Int) := by omega
        have hwr : wrap64 ((M : Int) - 1) = (hiN (q / 2 ^ r) (l + r) : Int) := (wrap64_in (by have := HBD.out; omega) (by have := HBD.out; omega)).trans (by omega)
        have H2 := hid h2
        clear h1 h2 h3 hm' hlo' hhi' hp hrk hlr
        go_wp2
        go_roundg r
        case measure => omega
        case rel =>
          have := HRK.out
          exact ⟨by omega, by rw [H2.out], by first | rfl | rw [hwr], by rw [show k - r = k - (r + 1) + 1 by omega]; exact HO5.out, HB5.out⟩
      · obtain ⟨h1, h2, h3⟩ := down_right (l := l) hp
        rw [← HX.out, ← hm'] at h1
        rw [← hhi'] at h2
        rw [← hm'] at h3
        have hlx : ¬ (x : Int) < (M : Int) := by omega
        have hwr : wrap64 ((M : Int) + 1) = (loN (q / 2 ^ r) (l + r) : Int) := (wrap64_in (by have := HBD.out; omega) (by have := HBD.out; omega)).trans (by omega)
        have H2 := hid h2
        clear h1 h2 h3 hm' hlo' hhi' hp hrk hlr
        go_wp2
        go_roundg r
        case measure => omega
        case rel =>
          have := HRK.out
          exact ⟨by omega, by first | rfl | rw [hwr], by rw [H2.out], by rw [show k - r = k - (r + 1) + 1 by omega]; exact HO5.out, HB5.out⟩
/-- A node of a tree of n leaves. -/
def inT (x n : Int) : Prop := ∃ q l k : Nat, q < 2 ^ k ∧ l + k ≤ 16 ∧ x = ((nd q l : Nat) : Int) ∧ n = ((2 ^ (l + k) : Nat) : Int)
theorem inT_of {x n : Int} (hn : fitB n = true) (h0 : 0 ≤ x) (h1 : x ≤ 2 * n - 2) : inT x n := by
  obtain ⟨h, hh, rfl⟩ := (fitB_iff n).1 hn
  obtain ⟨y, rfl⟩ := Int.eq_ofNat_of_zero_le h0
  have hp := Nat.one_le_two_pow (n := h)
  obtain ⟨h2, h3⟩ := in_tree (x := y) (h := h) |>.1 (by omega)
  refine ⟨qt y, lv y, h - lv y, h3, by omega, by rw [nd_of], ?_⟩
  rw [show lv y + (h - lv y) = h by omega]
theorem inT_fit {x n : Int} (h : inT x n) : fitB n = true ∧ 0 ≤ x ∧ x ≤ 2 * n - 2 := by
  obtain ⟨q, l, k, hq, hk, rfl, rfl⟩ := h
  have h1 := hi_bound (l := l) hq
  have h2 := le_hi q l
  exact ⟨fitB_pow hk, by omega, by omega⟩
theorem Down14_no (x n : Int) (w : World) (h : ¬ inT x n) : Calls Try.prog 79 #[.int .i64 x, .int .i64 n] w fun e w' => e = .returned (.slice none 0 0) ∧ w' = w := by
  have KF := Fits14_any n w
  by_cases hn : fitB n = true
  · rw [hn] at KF
    have hnb : 1 ≤ n ∧ n ≤ 65536 := by
      obtain ⟨j, h1, h2⟩ := (fitB_iff n).1 hn
      have := pow_le16 h1
      have := Nat.one_le_two_pow (n := j)
      omega
    have hw1 : wrap64 (2 * n) = 2 * n := wrap64_in (by omega) (by omega)
    have hw2 : wrap64 (2 * n - 2) = 2 * n - 2 := wrap64_in (by omega) (by omega)
    have HK := hid KF
    by_cases h0 : x < 0
    · clear h KF hn hnb
      go_enter Try.func79, Try.ntmps79
      go_wp2_with fail
      refine HK.out.mono ?_
      rintro e w1 ⟨rfl, rfl⟩
      go_wp2
      go_ret
      exact ⟨rfl, rfl⟩
    · have h1 : 2 * n - 2 < x := by
        rcases Int.lt_or_le (2 * n - 2) x with h2 | h2
        · exact h2
        · exact absurd (inT_of hn (by omega) h2) h
      clear h KF hn hnb
      go_enter Try.func79, Try.ntmps79
      go_wp2_with fail
      refine HK.out.mono ?_
      rintro e w1 ⟨rfl, rfl⟩
      go_wp2
      go_ret
      exact ⟨rfl, rfl⟩
  · have hf : fitB n = false := by simpa using hn
    rw [hf] at KF
    have HK := hid KF
    clear h KF hn hf
    go_enter Try.func79, Try.ntmps79
    go_wp2_with fail
    refine HK.out.mono ?_
    rintro e w1 ⟨rfl, rfl⟩
    go_wp2
    go_ret
    exact ⟨rfl, rfl⟩
/-- The node itself, as a value. -/
abbrev ndA (q l : Nat) : Array Value := #[.int .i64 (nd q l : Int), .int .i64 (loN q l : Int), .int .i64 (hiN q l : Int)]
theorem LieT.cells {w : World} {b c : Nat} {L : List (Nat × Nat)} (h : LieT w b c L) {i : Nat} {p : Nat × Nat} (hi : L[i]? = some p) :
    w.cell? ⟨b, i * 3, none⟩ = some (.int .i64 (nd p.1 p.2 : Int)) ∧ w.cell? ⟨b, i * 3 + 1, none⟩ = some (.int .i64 (loN p.1 p.2 : Int)) ∧ w.cell? ⟨b, i * 3 + 2, none⟩ = some (.int .i64 (hiN p.1 p.2 : Int)) :=
  ⟨h.2.2.2 i p hi 0 _ rfl, h.2.2.2 i p hi 1 _ rfl, h.2.2.2 i p hi 2 _ rfl⟩
abbrev z3 : Array Value := #[.int .i64 0, .int .i64 0, .int .i64 0]
theorem ndA_size {q l : Nat} : z3.size = (ndA q l).size := rfl
theorem ndA_one {q l : Nat} : (ndA q l).all (·.oneCell') = true := by simp [Value.oneCell']
theorem below_put (w : World) {B : Nat} (g : Nat) (cs : Array Value) (hg : B ≤ g) : Below B w (w.setRow g cs) := ⟨rfl, rfl, rfl, by simp, fun k hk => setRow_other _ _ _ _ (by omega)⟩
theorem infoNd {q l : Nat} : (Try.prog.info? TN).map (·.size) = some (ndA q l).size := by kernel_rfl
/-- A box and a slot, read at the end. -/
theorem results_cs {P : Program} {fn : Func} {p q : Tmp} {ty : TypeId} (h : fn.results = #[.cell p ty, .tmp q]) (tmps : Array Value) (w : World) (g : Nat) (t : TypeId) (cs : Array Value) (fr : Nat × Nat) (d : TypeDesc)
    (hp : tmps.getD p undef = .pointer (some ⟨g, 0, none⟩)) (hg : w.heap[g]? = some (.cells cs t fr))
    (hu : P.underlying ty = some d) (hd : (match d with | .struct _ | .array _ _ => true | _ => false) = true) (hi : (P.info? ty).map (·.size) = some cs.size) (v : Value) (hv : tmps.getD q undef = v) :
    (results fn tmps).run P w = .ok (.tuple #[.agg cs, v]) w := by
  have hp' : tmps[p]?.getD undef = .pointer (some ⟨g, 0, none⟩) := by simpa using hp
  have hv' : tmps[q]?.getD undef = v := by simpa using hv
  simp [results, h, hp', hv', asAddr, run_loadVar_row w g t ty cs fr d hg hu hd hi]
set_option maxHeartbeats 1000000 in
theorem Last14_ok (q l k : Nat) (w : World) (hq : q < 2 ^ k) (hk : l + k ≤ 16) : Calls Try.prog 57 #[.int .i64 (nd q l : Int), .int .i64 ((2 ^ (l + k) : Nat) : Int)] w fun e w' => e = .returned (.tuple #[.agg (ndA q l), .bool true]) ∧ Below w.heap.size w w' := by
  have HD := hid (fun W => Down14_ok q l k W hq hk)
  have hk16 : k ≤ 16 := by omega
  have HCG : Hid ((chain q l k)[k]? = some (q, l)) := hid (by have h := chain_get q l k 0 (by omega); simpa using h)
  obtain ⟨x, hx⟩ : ∃ x : Int, x = (nd q l : Int) := ⟨_, rfl⟩
  obtain ⟨n, hn⟩ : ∃ n : Int, n = ((2 ^ (l + k) : Nat) : Int) := ⟨_, rfl⟩
  rw [← hx, ← hn] at HD
  rw [← hx, ← hn]
  clear hx hn hq hk
  go_enter Try.func57, Try.ntmps57
  go_wp2_with fail
  refine (HD.out _).mono ?_
  rintro e w1 ⟨b, c, rfl, hL, hb⟩
  obtain ⟨h1, h2, h3⟩ := hL.cells HCG.out
  have hkc : k < c := by have := hL.2.1; rw [chain_length] at this; omega
  have hb1 : b < w1.heap.size := hL.1
  have hz : w1.heap[w.heap.size]? = some (.cells z3 TN (0, 0)) := (hb.block w.heap.size (by simp)).trans (heap_alloc_new w _)
  have hwk : wrap64 ((k : Int) + 1 - 1) = (k : Int) := by rw [show (k : Int) + 1 - 1 = (k : Int) by omega]; exact wrap64_in (by omega) (by omega)
  have hB1 : Below w.heap.size w w1 := ((Below.refl _ _).alloc (Nat.le_refl _) (.cells z3 TN)).trans (hb.mono (by simp))
  have hZ := hid hz; have HB1 := hid hB1
  clear hL hb HD HCG hz hB1
  go_wp2_with (first | (with_reducible refine wpList_store_row rfl TN (.tmp 4) _ rfl w.heap.size (ndA q l) rfl rfl TN z3 hZ.out infoNd ndA_size ndA_one ?_))
  have HZ2 := setRow_heap w1 w.heap.size z3 (ndA q l) TN (0, 0) hZ.out
  exact bodyPost_ret (v := .tuple #[.agg (ndA q l), .bool true]) (results_cs rfl _ _ w.heap.size TN (ndA q l) (0, 0) _ rfl HZ2 Try.underlying70 rfl infoNd _ rfl) rfl ⟨rfl, HB1.out.trans (below_put _ _ _ (Nat.le_refl _))⟩
theorem infoZ3 : (Try.prog.info? TN).map (·.size) = some z3.size := by kernel_rfl
theorem z3_one : z3.all (·.oneCell') = true := by simp [Value.oneCell']
set_option maxHeartbeats 1000000 in
theorem Last14_no (x n : Int) (w : World) (h : ¬ inT x n) : Calls Try.prog 57 #[.int .i64 x, .int .i64 n] w fun e w' => e = .returned (.tuple #[.agg z3, .bool false]) ∧ Below w.heap.size w w' := by
  have HD := hid (fun W => Down14_no x n W h)
  clear h
  go_enter Try.func57, Try.ntmps57
  go_wp2_with fail
  refine (HD.out _).mono ?_
  rintro e w1 ⟨rfl, rfl⟩
  have hz : (w.alloc (.cells z3 TN)).heap[w.heap.size]? = some (.cells z3 TN (0, 0)) := heap_alloc_new w _
  have hZ := hid hz
  have HB1 : Hid (Below w.heap.size w (w.alloc (.cells z3 TN))) := hid ((Below.refl _ _).alloc (Nat.le_refl _) _)
  clear hz HD
  go_wp2_with (first | (with_reducible refine wpList_store_row rfl TN (.tmp 4) _ rfl w.heap.size z3 rfl rfl TN z3 hZ.out infoZ3 rfl z3_one ?_))
  have HZ2 := setRow_heap _ w.heap.size z3 z3 TN (0, 0) hZ.out
  exact bodyPost_ret (v := .tuple #[.agg z3, .bool false]) (results_cs rfl _ _ w.heap.size TN z3 (0, 0) _ rfl HZ2 Try.underlying70 rfl infoZ3 _ rfl) rfl ⟨rfl, HB1.out.trans (below_put _ _ _ (Nat.le_refl _))⟩
/-- A box with a node put into it. -/
theorem box_cells (w : World) (q l : Nat) : (((w.alloc (.cells z3 TN)).setRow w.heap.size (ndA q l)).cell? ⟨w.heap.size, 0, none⟩ = some (.int .i64 (nd q l : Int))) ∧ (((w.alloc (.cells z3 TN)).setRow w.heap.size (ndA q l)).cell? ⟨w.heap.size, 1, none⟩ = some (.int .i64 (loN q l : Int))) ∧ (((w.alloc (.cells z3 TN)).setRow w.heap.size (ndA q l)).cell? ⟨w.heap.size, 2, none⟩ = some (.int .i64 (hiN q l : Int))) := by
  have h := setRow_heap _ w.heap.size z3 (ndA q l) TN (0, 0) (heap_alloc_new w (.cells z3 TN))
  exact ⟨cell_of h 0 _ rfl, cell_of h 1 _ rfl, cell_of h 2 _ rfl⟩
theorem box_below (w : World) (cs : Array Value) : Below w.heap.size w ((w.alloc (.cells z3 TN)).setRow w.heap.size cs) := ((Below.refl _ _).alloc (Nat.le_refl _) _).trans (below_put _ _ _ (Nat.le_refl _))
end Go.Proofs.Ythooibljnfnnhaa
end
section
namespace Go.Proofs.Ythooibljnfnnhaa
open Go Go.RowKit
set_option linter.unusedVariables false
set_option linter.unusedSimpArgs false
theorem take_snoc {L : List Nat} {j x : Nat} (h : L[j]? = some x) : L.take j ++ [x] = L.take (j + 1) := by
  obtain ⟨h1, h2⟩ := List.getElem?_eq_some_iff.1 h
  rw [List.take_succ_eq_append_getElem h1, h2]
theorem own_base0 {w : World} {B B' : Nat} {v : Value} {xs : List Nat} (h : OwnI w B' v xs) (hB : B ≤ B') : OwnI w B v xs := by
  obtain ⟨h1, h2⟩ := h
  refine ⟨h1, ?_⟩
  rcases h2 with h2 | ⟨g, cap, cur, hv, hb, r⟩
  · exact .inl h2
  · exact .inr ⟨g, cap, cur, hv, Nat.le_trans hB hb, r⟩
theorem own_onI {w w' : World} {B : Nat} {v : Value} {xs : List Nat} (h : OwnI w B v xs) (hb : Below w.heap.size w w') : OwnI w' B v xs :=
  World.ownsRow.kept (row := none) h ⟨hb.os, hb.tape, hb.output, hb.size, fun k hk _ => hb.block k hk⟩ (by cases hv : v.ownBlock <;> simp)
/-- Numbers, in memory of the call's own. -/
def OwnLn (w : World) (xs : List Nat) (e : Ending) (w' : World) : Prop := ∃ v, e = .returned v ∧ OwnI w' w.heap.size v xs ∧ Below w.heap.size w w'
/-- What is beneath what. -/
def undB (q l r m : Nat) : Bool := decide (loN r m ≤ nd q l) && decide (nd q l ≤ hiN r m)
set_option maxHeartbeats 1000000 in
theorem Under14_ok (q l k r m k' : Nat) (w : World) (hq : q < 2 ^ k) (hk : l + k = 16) (hr : r < 2 ^ k') (hk' : m + k' = 16) : Calls Try.prog 28 #[.int .i64 (nd q l : Int), .int .i64 (nd r m : Int)] w fun e w' => e = .returned (.bool (undB q l r m)) ∧ Below w.heap.size w w' := by
  have HK := hid (fun W => Last14_ok q l k W hq (by omega))
  have HK' := hid (fun W => Last14_ok r m k' W hr (by omega))
  rw [hk, show ((2 ^ 16 : Nat) : Int) = 65536 by decide] at HK
  rw [hk', show ((2 ^ 16 : Nat) : Int) = 65536 by decide] at HK'
  have HB := hid box_cells
  obtain ⟨x, hx⟩ : ∃ x : Nat, x = nd q l := ⟨_, rfl⟩
  obtain ⟨y, hy⟩ : ∃ x : Nat, x = nd r m := ⟨_, rfl⟩
  obtain ⟨lo, hlo⟩ : ∃ x : Nat, x = loN r m := ⟨_, rfl⟩
  obtain ⟨hi, hhi⟩ : ∃ x : Nat, x = hiN r m := ⟨_, rfl⟩
  have hU : undB q l r m = (decide (lo ≤ x) && decide (x ≤ hi)) := by unfold undB; rw [hx, hlo, hhi]
  rw [hU]
  rw [← hx] at HK
  rw [← hy] at HK'
  rw [← hx, ← hy]
  have HX := hid hx; have HLO := hid hlo; have HHI := hid hhi
  clear hx hy hlo hhi hU hq hk hr hk'
  go_enter Try.func28, Try.ntmps28
  go_wp2_with fail
  refine (HK.out _).mono ?_
  rintro e w1 ⟨rfl, hb⟩
  have hZ := hid (heap_alloc_new w1 (.cells z3 TN))
  obtain ⟨h0, h1, h2⟩ := HB.out w1 q l
  have HB2 := hid (hb.trans ((box_below w1 (ndA q l)).mono hb.size))
  have H0 := hid h0
  clear hb HK h0 h1 h2
  go_wp2_with (first | (with_reducible refine wpList_store_row rfl TN (.tmp 5) _ rfl w1.heap.size (ndA q l) rfl rfl TN z3 hZ.out infoNd ndA_size ndA_one ?_))
  have hlt : w1.heap.size < ((w1.alloc (.cells z3 TN)).setRow w1.heap.size (ndA q l)).heap.size := by simp
  rw [← HX.out] at H0
  clear hZ
  go_wp2_with fail
  refine (HK'.out _).mono ?_
  rintro e w3 ⟨rfl, hb⟩
  have hZ := hid (heap_alloc_new w3 (.cells z3 TN))
  obtain ⟨h0, h1, h2⟩ := HB.out w3 r m
  have hbb := box_below w3 (ndA r m)
  have H02 := hid ((hbb.cell (p := ⟨w1.heap.size, 0, none⟩) (Nat.lt_of_lt_of_le hlt hb.size)).trans ((hb.cell (p := ⟨w1.heap.size, 0, none⟩) hlt).trans H0.out))
  have hlt3 : w1.heap.size < w3.heap.size := Nat.lt_of_lt_of_le hlt hb.size
  have HB3 := hid (HB2.out.trans ((hb.trans (hbb.mono hb.size)).mono HB2.out.size))
  rw [← HLO.out] at h1
  rw [← HHI.out] at h2
  clear hb hbb HB2 HK' h0 H0 hlt
  have h0 := H02.out
  by_cases hc : lo ≤ x
  · have hc2 : (lo : Int) ≤ (x : Int) := by omega
    go_wp2_with (first | (with_reducible refine wpList_store_row rfl TN (.tmp 7) _ rfl w3.heap.size (ndA r m) rfl rfl TN z3 hZ.out infoNd ndA_size ndA_one ?_))
    go_ret
    exact ⟨by rw [decide_eq_true hc]; rfl, HB3.out⟩
  · have hc2 : ¬ (lo : Int) ≤ (x : Int) := by omega
    go_wp2_with (first | (with_reducible refine wpList_store_row rfl TN (.tmp 7) _ rfl w3.heap.size (ndA r m) rfl rfl TN z3 hZ.out infoNd ndA_size ndA_one ?_))
    go_ret
    exact ⟨by rw [decide_eq_false hc]; rfl, HB3.out⟩
theorem info_sz {cs : Array Value} (h : z3.size = cs.size) : (Try.prog.info? TN).map (·.size) = some cs.size := by rw [← h]; exact infoZ3
set_option maxHeartbeats 1000000 in
theorem Under14_no (x y : Int) (w : World) (h : ¬ inT x 65536 ∨ ¬ inT y 65536) : Calls Try.prog 28 #[.int .i64 x, .int .i64 y] w fun e w' => e = .returned (.bool false) ∧ Below w.heap.size w w' := by
  have HK : Hid (∀ z W, Calls Try.prog 57 #[.int .i64 z, .int .i64 65536] W fun e w' => ∃ (cs : Array Value) (b : Bool), e = .returned (.tuple #[.agg cs, .bool b]) ∧ (¬ inT z 65536 → b = false) ∧ z3.size = cs.size ∧ cs.all (·.oneCell') = true ∧ Below W.heap.size W w') := hid fun z W => by
    by_cases hz : inT z 65536
    · have hz' := hz
      obtain ⟨q, l, k, hq, hk, rfl, hn⟩ := hz'
      rw [hn]
      exact (Last14_ok q l k W hq hk).mono fun e w' ⟨he, hb⟩ => ⟨_, _, he, fun h => absurd hz (by rw [hn]; exact h), rfl, ndA_one, hb⟩
    · exact (Last14_no z 65536 W hz).mono fun e w' ⟨he, hb⟩ => ⟨_, _, he, fun _ => rfl, rfl, z3_one, hb⟩
  have HH := hid h
  clear h
  go_enter Try.func28, Try.ntmps28
  go_wp2_with fail
  refine (HK.out x _).mono ?_
  rintro e w1 ⟨cs, p, rfl, hp, hs, h1, hb⟩
  have hZ := hid (heap_alloc_new w1 (.cells z3 TN))
  have HB2 := hid (hb.trans ((box_below w1 cs).mono hb.size))
  have HS := hid hs; have H1 := hid h1; have HP := hid hp
  clear hb hp hs h1
  go_wp2_with (first | (with_reducible refine wpList_store_row rfl TN (.tmp 5) _ rfl w1.heap.size cs rfl rfl TN z3 hZ.out (info_sz HS.out) HS.out H1.out ?_))
  refine (HK.out y _).mono ?_
  rintro e w3 ⟨cs', p', rfl, hp', hs', h1', hb⟩
  have hZ := hid (heap_alloc_new w3 (.cells z3 TN))
  have hbb := box_below w3 cs'
  have HB3 := hid (HB2.out.trans ((hb.trans (hbb.mono hb.size)).mono HB2.out.size))
  have HS' := hid hs'; have H1' := hid h1'; have HP' := hid hp'
  clear hb hbb HB2 HK hp' hs' h1'
  rcases p with _ | _
  · go_wp2_with (first | (with_reducible refine wpList_store_row rfl TN (.tmp 7) _ rfl w3.heap.size cs' rfl rfl TN z3 hZ.out (info_sz HS'.out) HS'.out H1'.out ?_))
    go_ret
    exact ⟨rfl, HB3.out⟩
  · have hpf : p' = false := HP'.out (HH.out.resolve_left fun h => by cases HP.out h)
    subst hpf
    go_wp2_with (first | (with_reducible refine wpList_store_row rfl TN (.tmp 7) _ rfl w3.heap.size cs' rfl rfl TN z3 hZ.out (info_sz HS'.out) HS'.out H1'.out ?_))
    go_ret
    exact ⟨rfl, HB3.out⟩
theorem Lie.numI {w : World} {B : Nat} {A : Option Addr} {xs : List Nat} (h : Lie w B A (ivs xs)) {k : Nat} (hk : k < xs.length) : ∃ b o, A = some ⟨b, o, none⟩ ∧ b < B ∧ w.cell? ⟨b, o + k, none⟩ = some (.int .i64 (xs[k] : Int)) := by
  obtain ⟨b, o, hA, hb, hc⟩ := h.at_ (k := k) (by simpa using hk)
  exact ⟨b, o, hA, hb, by rw [hc]; simp [ivs]⟩
set_option maxHeartbeats 800000 in
theorem Same14_any (A : Option Addr) (xs : List Nat) (c : Nat) (A' : Option Addr) (ys : List Nat) (c' : Nat) (w : World) (B B' : Nat) (hA : Lie w B A (ivs xs)) (hA' : Lie w B' A' (ivs ys)) (hm : xs.length ≤ 140737488355328) :
    Calls Try.prog 15 #[.slice A xs.length c, .slice A' ys.length c'] w fun e w' => e = .returned (.bool (xs == ys)) ∧ ∃ n, w' = w.drewN n := by
  by_cases hl : xs.length = ys.length
  · have hl2 : ((xs.length : Int) != (ys.length : Int)) = false := by simp [hl]
    have HL := hid hl
    clear hl
    go_enter Try.func15, Try.ntmps15
    go_wp2
    go_loopg [5] xs.length (fun g i wr => ∃ k n : Nat, k + g = xs.length ∧ i = .int .i64 (k : Int) ∧ xs.take k = ys.take k ∧ wr = w.drewN n)
    case atStart => exact ⟨0, 0, by omega, rfl, rfl, rfl⟩
    case round =>
      obtain ⟨k, n, hk, rfl, ht, rfl⟩ := hrel
      have HT := hid ht
      have HK := hid hk
      clear ht hk
      by_cases hlt : k < xs.length
      · have hlt2 : k < ys.length := by rw [← HL.out]; exact hlt
        obtain ⟨b, o, rfl, hb, hc⟩ := hA.numI hlt
        obtain ⟨b', o', rfl, hb', hc'⟩ := hA'.numI hlt2
        have hx : (k : Int) < (xs.length : Int) := by omega
        have hy : (k : Int) < (ys.length : Int) := by omega
        have h0 : (0 : Int) ≤ (k : Int) := by omega
        have hstep := hid (take_eq_step xs ys k hlt hlt2 HT.out)
        by_cases he : xs[k] = ys[k]
        · have he2 : ((xs[k] : Int) != (ys[k] : Int)) = false := by simp [he]
          have HE := hid he
          clear he
          go_wp2
          go_quiet (fail)
          go_wp2
          have hk := HK.out
          go_roundg (gk - 1)
          case measure => omega
          case rel => exact ⟨k + 1, _, by omega, by go_num, hstep.out.2 HE.out, rfl⟩
        · have he2 : ((xs[k] : Int) != (ys[k] : Int)) = true := by rw [bne_iff_ne]; omega
          have HE := hid he
          have HF : Hid ((xs == ys) = false) := hid (by
            rw [beq_eq_false_iff_ne]
            intro e
            subst e
            exact he rfl)
          clear he
          go_wp2
          go_quiet (fail)
          go_wp2
          go_ret
          exact ⟨by rw [HF.out]; rfl, _, World.drewN_drewN _ _ _⟩
      · have hk := HK.out
        obtain rfl : k = xs.length := by omega
        have HF : Hid ((xs == ys) = true) := hid (by
          have h := HT.out
          rw [List.take_length, HL.out, List.take_length] at h
          rw [beq_iff_eq]; exact h)
        clear hk
        go_wp2
        go_ret
        exact ⟨by rw [HF.out]; rfl, _, rfl⟩
  · have hl2 : ((xs.length : Int) != (ys.length : Int)) = true := by rw [bne_iff_ne]; omega
    have HF : Hid ((xs == ys) = false) := hid (by
      rw [beq_eq_false_iff_ne]
      intro e
      subst e
      exact hl rfl)
    clear hl
    go_enter Try.func15, Try.ntmps15
    go_wp2
    go_ret
    exact ⟨by rw [HF.out]; rfl, 0, rfl⟩
end Go.Proofs.Ythooibljnfnnhaa
end
