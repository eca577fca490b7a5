/-
  Texts of this claim in one file: TcA, TcM, TcN, TcI, TcB, TcC.
-/
import Derived.Test.YthooibljnfnnhaaPk14
import Derived.Test.YthooibljnfnnhaaPk16
import Derived.Test.YthooibljnfnnhaaPk17
import Derived.Test.YthooibljnfnnhaaPk18
import Derived.Lib.AppendZerosOnto
import Derived.Test.YthooibljnfnnhaaPk13
section
namespace Go.Proofs.Ythooibljnfnnhaa
open Go Go.RowKit
set_option linter.unusedVariables false
set_option linter.unusedSimpArgs false
/-- A node that the walks can bear. -/
def NdM (n : Nd) : Prop := LfM n.x ∧ PrM n.u ∧ n.k < 256 ∧ Late64 n.u
def TrM (t : List Nd) : Prop := t.length ≤ 131071 ∧ ∀ (j : Nat) (n : Nd), t[j]? = some n → NdM n
/-- A row of nodes in memory, its slices' ends told. -/
structure TrQ (w : World) (B : Nat) (A : Option Addr) (c : Nat) (t : List Nd) (ad : List NA) : Prop where
  tr : TrIn w B A t ad
  cap : t.length ≤ c ∧ c ≤ 9223372036854775807
  late : ∀ (j : Nat) (n : Nd) (a : NA), t[j]? = some n → ad[j]? = some a → n.u.late.length ≤ a.p.c2 ∧ a.p.c2 ≤ 9223372036854775807
theorem TrQ.on {w w' : World} {B c : Nat} {A : Option Addr} {t : List Nd} {ad : List NA} (h : TrQ w B A c t ad) (hb : Below B w w') : TrQ w' B A c t ad := ⟨h.tr.on hb, h.cap, h.late⟩
theorem TrQ.up {w w' : World} {A : Option Addr} {c : Nat} {t : List Nd} {ad : List NA} (h : TrQ w w.heap.size A c t ad) (hb : Below w.heap.size w w') : TrQ w' w'.heap.size A c t ad := ⟨h.tr.up hb, h.cap, h.late⟩
theorem q16 {K l q : Nat} (hl : l ≤ K) (hK : K ≤ 16) (hq : q < 2 ^ (K - l)) : q < 2 ^ (16 - l) := Nat.lt_of_lt_of_le hq (Nat.pow_le_pow_right (by decide) (by omega))
theorem nd_i64 {q l k : Nat} (hq : q < 2 ^ k) (hk : l + k ≤ 16) : I64 ((nd q l : Nat) : Int) := i64_small (by omega) (by have := nd_lt hq hk; omega)
theorem Left_e (q l : Nat) (W : World) (hl : l + 1 ≤ 16) (hq : q < 2 ^ (16 - (l + 1))) : Calls Try.prog 68 #[.int .i64 (nd q (l + 1) : Int)] W (RetI W (nd (2 * q) l : Int)) := by
  have h := left_ok (nd q (l + 1) : Int) W (nd_i64 hq (by omega))
  rw [leftZ_nd hq (by omega)] at h
  exact h
theorem Right_e (q l : Nat) (W : World) (hl : l + 1 ≤ 16) (hq : q < 2 ^ (16 - (l + 1))) : Calls Try.prog 69 #[.int .i64 (nd q (l + 1) : Int)] W (RetI W (nd (2 * q + 1) l : Int)) := by
  have h := right_ok (nd q (l + 1) : Int) W (nd_i64 hq (by omega))
  rw [rightZ_nd hq (by omega)] at h
  exact h
theorem Span_e (q l : Nat) (W : World) (hl : l ≤ 16) (hq : q < 2 ^ (16 - l)) : Calls Try.prog 72 #[.int .i64 (nd q l : Int)] W (RetII W ((q * 2 ^ l : Nat) : Int) (((q + 1) * 2 ^ l - 1 : Nat) : Int)) := by
  have h := span_ok (nd q l : Int) W (nd_i64 hq (by omega))
  rw [firstZ_nd hq (by omega), lastZ_nd hq (by omega)] at h
  exact h
theorem Rootp_e (K : Nat) (W : World) (hK : K ≤ 16) : Calls Try.prog 43 #[.int .i64 ((2 ^ K : Nat) : Int)] W (RetI W (nd 0 K : Int)) := by
  have h := root_ok ((2 ^ K : Nat) : Int) W (i64_pow hK)
  rw [rootZ_pow hK] at h
  exact h
theorem lvs_cases {L : Nat} : (∃ K, Nat.le K 16 ∧ L = 2 * 2 ^ K - 1 ∧ lvsN L = 2 ^ K) ∨ lvsN L = 0 ∧ ∀ K, K ≤ 16 → 2 * 2 ^ K - 1 ≠ L := by
  unfold lvsN
  cases h : lvsK L with
  | none =>
    refine .inr ⟨rfl, fun K hK he => ?_⟩
    rw [lvs_some hK he.symm] at h; cases h
  | some K =>
    unfold lvsK at h
    rw [List.find?_range_eq_some] at h
    exact .inl ⟨K, by have := List.mem_range.1 h.2.1; exact (show K ≤ 16 by omega), (of_decide_eq_true h.1).symm, rfl⟩
set_option maxHeartbeats 1000000 in
theorem leaves_e (A : Option Addr) (L c : Nat) (w : World) (hL : L ≤ 1000000) : Calls Try.prog 38 #[.slice A L c] w fun e w' => e = .returned (.int .i64 (lvsN L : Int)) ∧ w' = w := by
  obtain ⟨m, hm⟩ : ∃ m, m = (L + 1) / 2 := ⟨_, rfl⟩
  have HF := hid (Fits_e (m : Int) w (i64_small (by omega) (by omega)))
  have hw1 : wrap64 ((L : Int) + 1) = (L : Int) + 1 := wrap64_in (by omega) (by omega)
  have hq : Int.tdiv ((L : Int) + 1) 2 = (m : Int) := by rw [Int.tdiv_eq_ediv_of_nonneg (by omega)]; omega
  have hq2 : ((L : Int) + 1) / 2 = (m : Int) := by omega
  have hwm : wrap64 (m : Int) = (m : Int) := wrap64_in (by omega) (by omega)
  obtain ⟨r, hr⟩ : ∃ r, r = L % 2 := ⟨_, rfl⟩
  have ht : Int.tmod (L : Int) 2 = (r : Int) := by rw [Int.tmod_eq_emod_of_nonneg (by omega)]; omega
  have ht2 : (L : Int) % 2 = (r : Int) := by omega
  have hc := @lvs_cases L
  have HC : Hid (r = 0 → lvsN L = 0) := hid fun h => by
    rcases hc with ⟨K, -, h1, -⟩ | h1
    · have := Nat.two_pow_pos K; omega
    · exact h1.1
  have HD : Hid (r = 1 → lvsN L = if fitB (m : Int) = true then m else 0) := hid fun h => by
    rcases hc with ⟨K, hK, h1, h2⟩ | ⟨h1, h2⟩
    · have := Nat.two_pow_pos K
      have hmk : m = 2 ^ K := by omega
      rw [h2, hmk, fitB_pow hK, if_pos rfl]
    · rw [h1]
      by_cases hf : fitB (m : Int) = true
      · obtain ⟨K, hK, he⟩ := (fitB_iff _).1 hf
        have := Nat.two_pow_pos K
        exact absurd (show 2 * 2 ^ K - 1 = L by omega) (h2 K hK)
      · rw [if_neg hf]
  obtain ⟨f, hf⟩ : ∃ f, f = fitB (m : Int) := ⟨_, rfl⟩
  rw [← hf] at HF HD
  have hr2 : r = 0 ∨ r = 1 := by omega
  clear hm hr hc hf hL
  rcases hr2 with rfl | rfl
  · have HR := hid (HC.out rfl)
    clear HC HD HF
    go_enter Try.func38, Try.ntmps38
    go_wp2
    go_ret
    exact ⟨by rw [HR.out]; rfl, rfl⟩
  · have HR := hid (HD.out rfl)
    clear HC HD
    go_enter Try.func38, Try.ntmps38
    go_wp2_with fail
    refine HF.out.mono ?_
    rintro e w1 ⟨rfl, rfl⟩
    clear HF
    cases f with
    | false =>
      go_wp2
      go_ret
      exact ⟨by rw [HR.out]; rfl, rfl⟩
    | true =>
      go_wp2
      go_ret
      exact ⟨by rw [HR.out]; rfl, rfl⟩
theorem isLeafs_e (x : Nat) (w : World) : Calls Try.prog 67 #[.int .i64 (x : Int)] w fun e w' => e = .returned (.bool (decide (x % 2 = 0))) ∧ w' = w := by
  obtain ⟨r, hr⟩ : ∃ r, r = x % 2 := ⟨_, rfl⟩
  have ht : Int.tmod (x : Int) 2 = (r : Int) := by rw [Int.tmod_eq_emod_of_nonneg (by omega)]; omega
  have hr2 : r = 0 ∨ r = 1 := by omega
  rw [← hr]
  clear hr
  rcases hr2 with rfl | rfl
  · go_enter Try.func67, Try.ntmps67
    go_wp2
    go_ret
    exact ⟨rfl, rfl⟩
  · go_enter Try.func67, Try.ntmps67
    go_wp2
    go_ret
    exact ⟨rfl, rfl⟩
theorem isLeafs_0 (q : Nat) (w : World) : Calls Try.prog 67 #[.int .i64 (nd q 0 : Int)] w fun e w' => e = .returned (.bool true) ∧ w' = w := by
  have h := isLeafs_e (nd q 0) w
  rw [show decide (nd q 0 % 2 = 0) = true by rw [nd_zero]; exact decide_eq_true (by omega)] at h
  exact h
theorem isLeafs_s (q l : Nat) (w : World) : Calls Try.prog 67 #[.int .i64 (nd q (l + 1) : Int)] w fun e w' => e = .returned (.bool false) ∧ w' = w := by
  have h := isLeafs_e (nd q (l + 1)) w
  rw [show decide (nd q (l + 1) % 2 = 0) = false by rw [nd_succ]; exact decide_eq_false (by omega)] at h
  exact h
/-- Which kind may stand where. -/
def stB (k x : Nat) : Bool := if x % 2 = 0 then decide (k ≠ 2) else decide (k ≠ 1)
theorem mayStand_e (k x : Nat) (w : World) : Calls Try.prog 65 #[.int .u8 (k : Int), .int .i64 (x : Int)] w fun e w' => e = .returned (.bool (stB k x)) ∧ w' = w := by
  have HL := hid (isLeafs_e x w)
  by_cases hx : x % 2 = 0
  · have HS : Hid (stB k x = decide (k ≠ 2)) := hid (by unfold stB; rw [if_pos hx])
    rw [decide_eq_true hx] at HL
    have hi : ((k : Int) != 2) = decide (k ≠ 2) := by rw [Bool.eq_iff_iff, bne_iff_ne, decide_eq_true_iff]; omega
    obtain ⟨q, hq⟩ : ∃ q, q = decide (k ≠ 2) := ⟨_, rfl⟩
    rw [← hq] at HS hi
    clear hx hq
    go_enter Try.func65, Try.ntmps65
    go_wp2_with fail
    refine HL.out.mono ?_
    rintro e w1 ⟨rfl, rfl⟩
    clear HL
    go_wp2
    go_ret
    exact ⟨by rw [HS.out]; first | rfl | exact congrArg (fun b => Ending.returned (.bool b)) hi, rfl⟩
  · have HS : Hid (stB k x = decide (k ≠ 1)) := hid (by unfold stB; rw [if_neg hx])
    rw [decide_eq_false hx] at HL
    have hi : ((k : Int) != 1) = decide (k ≠ 1) := by rw [Bool.eq_iff_iff, bne_iff_ne, decide_eq_true_iff]; omega
    obtain ⟨q, hq⟩ : ∃ q, q = decide (k ≠ 1) := ⟨_, rfl⟩
    rw [← hq] at HS hi
    clear hx hq
    go_enter Try.func65, Try.ntmps65
    go_wp2_with fail
    refine HL.out.mono ?_
    rintro e w1 ⟨rfl, rfl⟩
    clear HL
    go_wp2
    go_ret
    exact ⟨by rw [HS.out]; first | rfl | exact congrArg (fun b => Ending.returned (.bool b)) hi, rfl⟩
theorem end_e (K : Nat) (w : World) (hK : K ≤ 16) : Calls Try.prog 41 #[.int .i64 ((2 ^ K : Nat) : Int)] w (RetI w (nd (endQ K) (endL K) : Int)) := by
  have HRo := hid fun W => Rootp_e K W hK
  by_cases h0 : K = 0
  · subst h0
    go_enter Try.func41, Try.ntmps41
    go_wp2_with fail
    refine (HRo.out _).mono ?_
    rintro e w1 ⟨rfl, hb⟩
    have HB := hid hb
    clear hb HRo
    go_wp2
    go_ret
    exact ⟨rfl, HB.out⟩
  · obtain ⟨k, rfl⟩ : ∃ k, K = k + 1 := ⟨K - 1, by omega⟩
    have HRi := hid fun W => Right_e 0 k W (by omega) (Nat.two_pow_pos _)
    have HE : Hid (nd (endQ (k + 1)) (endL (k + 1)) = nd (2 * 0 + 1) k) := hid rfl
    obtain ⟨n, hn⟩ : ∃ n, n = 2 ^ (k + 1) := ⟨_, rfl⟩
    have hne : ¬ (n : Int) = 1 := by rw [hn, Nat.pow_succ]; have := Nat.two_pow_pos k; omega
    obtain ⟨x, hx⟩ : ∃ x, x = nd 0 (k + 1) := ⟨_, rfl⟩
    obtain ⟨y, hy⟩ : ∃ y, y = nd (2 * 0 + 1) k := ⟨_, rfl⟩
    rw [← hn, ← hx] at HRo
    rw [← hx, ← hy] at HRi
    rw [← hy] at HE
    rw [← hn]
    clear hn hx hy h0
    go_enter Try.func41, Try.ntmps41
    go_wp2_with fail
    refine (HRo.out _).mono ?_
    rintro e w1 ⟨rfl, hb⟩
    have HB := hid hb
    clear hb HRo
    go_wp2_with fail
    refine (HRi.out _).mono ?_
    rintro e w2 ⟨rfl, hb⟩
    have HB2 := hid (HB.out.trans (hb.mono HB.out.size))
    clear hb HRi HB
    go_wp2
    go_ret
    exact ⟨by rw [HE.out]; rfl, HB2.out⟩
set_option maxHeartbeats 1000000 in
theorem hasMember_e (A : Option Addr) (t : List Nd) (ad : List NA) (c K : Nat) (hz : Sz t K) (l : Nat) : ∀ (q : Nat) (w : World), l ≤ K → q < 2 ^ (K - l) → TrIn w w.heap.size A t ad →
    Calls Try.prog 40 #[.slice A t.length c, .int .i64 (nd q l : Int)] w (RetB w (hasM t l q)) := by
  induction l with
  | zero =>
    intro q w hl hq hA
    have HL := hid (isLeafs_0 q w)
    have hlt := sz_lt hz hl hq
    obtain ⟨b, o, n, a, rfl, hbl, hn, hnn, -, hr⟩ := hA.at_ hlt
    have hkc := kind_at hr
    have HM : Hid (hasM t 0 q = decide (n.k = 1)) := hid (by rw [hasM, ← hnn])
    obtain ⟨x, hx⟩ : ∃ x, x = nd q 0 := ⟨_, rfl⟩
    rw [← hx] at HL hlt hkc ⊢
    have hxi : (x : Int) < (t.length : Int) := by omega
    have h0 : (0 : Int) ≤ (x : Int) := by omega
    have hki : ((n.k : Int) == 1) = decide (n.k = 1) := by rw [Bool.eq_iff_iff, beq_iff_eq, decide_eq_true_iff]; omega
    obtain ⟨p, hp⟩ : ∃ p, p = decide (n.k = 1) := ⟨_, rfl⟩
    rw [← hp] at HM hki
    clear hn hnn hr hx hp hlt hA hz hl hq
    go_enter Try.func40, Try.ntmps40
    go_wp2_with fail
    refine HL.out.mono ?_
    rintro e w1 ⟨rfl, rfl⟩
    clear HL
    go_wp2
    go_ret
    exact ⟨by rw [HM.out]; first | rfl | exact congrArg (fun b => Ending.returned (.bool b)) hki, Below.refl _ _⟩
  | succ l ih =>
    intro q w hl hq hA
    obtain ⟨q1, q2⟩ := half hl hq
    have hq16 := q16 hl hz.2 hq
    have HS := hid fun W => isLeafs_s q l W
    have HLe := hid fun W => Left_e q l W (by have := hz.2; omega) hq16
    have HRi := hid fun W => Right_e q l W (by have := hz.2; omega) hq16
    have HI1 : Hid (∀ W, Below w.heap.size w W → Calls Try.prog 40 #[.slice A t.length c, .int .i64 (nd (2 * q) l : Int)] W (RetB W (hasM t l (2 * q)))) := hid fun W hb => ih (2 * q) W (by omega) q1 (hA.up hb)
    have HI2 : Hid (∀ W, Below w.heap.size w W → Calls Try.prog 40 #[.slice A t.length c, .int .i64 (nd (2 * q + 1) l : Int)] W (RetB W (hasM t l (2 * q + 1)))) := hid fun W hb => ih (2 * q + 1) W (by omega) q2 (hA.up hb)
    have HM : Hid (hasM t (l + 1) q = (hasM t l (2 * q) || hasM t l (2 * q + 1))) := hid (by rw [hasM])
    obtain ⟨x, hx⟩ : ∃ x, x = nd q (l + 1) := ⟨_, rfl⟩
    obtain ⟨y, hy⟩ : ∃ y, y = nd (2 * q) l := ⟨_, rfl⟩
    obtain ⟨z, hz2⟩ : ∃ z, z = nd (2 * q + 1) l := ⟨_, rfl⟩
    obtain ⟨p, hp⟩ : ∃ p, p = hasM t l (2 * q) := ⟨_, rfl⟩
    obtain ⟨p2, hp2⟩ : ∃ p, p = hasM t l (2 * q + 1) := ⟨_, rfl⟩
    rw [← hx] at HS HLe HRi ⊢
    rw [← hy] at HLe HI1
    rw [← hz2] at HRi HI2
    rw [← hp] at HI1 HM
    rw [← hp2] at HI2 HM
    clear hx hy hz2 hp hp2 hA hz hl hq q1 q2 hq16 ih
    go_enter Try.func40, Try.ntmps40
    go_wp2_with fail
    refine (HS.out _).mono ?_
    rintro e w1 ⟨rfl, rfl⟩
    clear HS
    go_wp2_with fail
    refine (HLe.out _).mono ?_
    rintro e w2 ⟨rfl, hb⟩
    have HB := hid hb
    clear hb HLe
    go_wp2_with fail
    refine (HI1.out _ HB.out).mono ?_
    rintro e w3 ⟨rfl, hb⟩
    have HB3 := hid (HB.out.trans (hb.mono HB.out.size))
    clear hb HI1 HB
    cases p with
    | true =>
      go_wp2
      go_ret
      exact ⟨by rw [HM.out]; rfl, HB3.out⟩
    | false =>
      go_wp2_with fail
      refine (HRi.out _).mono ?_
      rintro e w4 ⟨rfl, hb⟩
      have HB4 := hid (HB3.out.trans (hb.mono HB3.out.size))
      clear hb HRi HB3
      go_wp2_with fail
      refine (HI2.out _ HB4.out).mono ?_
      rintro e w5 ⟨rfl, hb⟩
      have HB5 := hid (HB4.out.trans (hb.mono HB4.out.size))
      clear hb HI2 HB4
      go_wp2
      go_ret
      exact ⟨by rw [HM.out]; rfl, HB5.out⟩
/-- Each node is right, and may stand where it stands. -/
def arB (n : Nd) (x : Nat) : Bool := stB n.k x && rightB n.k n.x n.u
theorem nd_getE {t : List Nd} {x : Nat} {n : Nd} (h : t[x]? = some n) : nAt t x = n := by unfold nAt; rw [List.getD_eq_getElem?_getD, h]; rfl
theorem arB_iff {t : List Nd} : (∀ (x : Nat) (n : Nd), t[x]? = some n → arB n x = true) ↔ AreR t := by
  have key : ∀ (n : Nd) x, stB n.k x = true ↔ (x % 2 = 0 → n.k ≠ 2) ∧ (x % 2 = 1 → n.k ≠ 1) := fun n x => by
    unfold stB
    by_cases hx : x % 2 = 0
    · rw [if_pos hx, decide_eq_true_iff]; exact ⟨fun h => ⟨fun _ => h, fun h1 => by omega⟩, fun h => h.1 hx⟩
    · rw [if_neg hx, decide_eq_true_iff]; exact ⟨fun h => ⟨fun h1 => absurd h1 hx, fun _ => h⟩, fun h => h.2 (by omega)⟩
  constructor
  · intro h x hx
    have h1 := h x _ (List.getElem?_eq_getElem hx)
    rw [← nd_getE (List.getElem?_eq_getElem hx)] at h1
    unfold arB at h1
    rw [Bool.and_eq_true, key] at h1
    exact ⟨h1.2, h1.1.1, h1.1.2⟩
  · intro h x n hn
    have hx := (List.getElem?_eq_some_iff.1 hn).1
    obtain ⟨h1, h2, h3⟩ := h x hx
    rw [nd_getE hn] at h1 h2 h3
    unfold arB
    rw [Bool.and_eq_true, key]
    exact ⟨⟨h2, h3⟩, h1⟩
noncomputable instance arDec (t : List Nd) : Decidable (AreR t) := Classical.propDecidable _
set_option maxRecDepth 100000 in
set_option maxHeartbeats 2000000 in
theorem areRight_e (A : Option Addr) (t : List Nd) (ad : List NA) (c : Nat) (w : World) (hA : TrIn w w.heap.size A t ad) (hm : TrM t) : Calls Try.prog 39 #[.slice A t.length c] w (RetB w (decide (AreR t))) := by
  have HA := hid hA; have HM := hid hm
  have hl : t.length ≤ 131071 := hm.1
  clear hA hm
  go_enter Try.func39, Try.ntmps39
  go_wp2
  go_loopg [8] t.length (fun r i wr => ∃ k : Nat, k + r = t.length ∧ i = .int .i64 (k : Int) ∧ (∀ (j : Nat) (n : Nd), j < k → t[j]? = some n → arB n j = true) ∧ Below w.heap.size w wr)
  case atStart => exact ⟨0, by omega, rfl, fun j n hj => by omega, Below.refl _ _⟩
  case round =>
    obtain ⟨k, hk, rfl, hno, hb⟩ := hrel
    have HK := hid hk; have HNO := hid hno; have HB := hid hb
    have hw1 : wrap64 ((k : Int) + 1) = (k : Int) + 1 := wrap64_in (by omega) (by omega)
    clear hk hno hb hl
    by_cases hlt : k < t.length
    · have hA2 := HA.out.up HB.out
      obtain ⟨b, o, n, a, rfl, hbl, hn, -, hni, hr⟩ := hA2.at_ hlt
      have hx : (k : Int) < (t.length : Int) := by omega
      have h0 : (0 : Int) ≤ (k : Int) := by omega
      have HR := hid (rng_ll hr)
      have hkc := kind_at hr
      have HN := hid hn; have HLT := hid hlt
      have hnm := HM.out.2 k n hn
      have HS := hid (mayStand_e n.k k wr)
      have HBy : Hid (Calls Try.prog 66 #[.agg (ndW n a)] wr (BysE wr (nbX n.k n.x n.u) (nbE n.k n.x n.u))) := hid (node_bytes n.k n.x a.l n.u a.p wr ⟨hni.1, hni.2, hnm⟩)
      have HAR : Hid (arB n k = (stB n.k k && rightB n.k n.x n.u)) := hid rfl
      have HF : Hid (arB n k = false → decide (AreR t) = false) := hid fun h => decide_eq_false fun h2 => by
        have := arB_iff.2 h2 k n hn
        rw [h] at this; cases this
      obtain ⟨s, hs⟩ : ∃ s, s = stB n.k k := ⟨_, rfl⟩
      rw [← hs] at HS HAR
      have HE : Hid (nbE n.k n.x n.u = if rightB n.k n.x n.u = true then 0 else 3) := hid rfl
      obtain ⟨er, her⟩ : ∃ e, e = nbE n.k n.x n.u := ⟨_, rfl⟩
      obtain ⟨rb, hrb⟩ : ∃ e, e = rightB n.k n.x n.u := ⟨_, rfl⟩
      obtain ⟨xs, hxs⟩ : ∃ e, e = nbX n.k n.x n.u := ⟨_, rfl⟩
      rw [← her, ← hxs] at HBy
      rw [← her, ← hrb] at HE
      rw [← hrb] at HAR
      clear hn hr hlt hs her hrb hxs hnm hni hA2
      go_wp2_with fail
      refine HS.out.mono ?_
      rintro e w2 ⟨rfl, rfl⟩
      clear HS hkc
      cases s with
      | false =>
        have HF2 := hid (HF.out (by rw [HAR.out]; rfl))
        go_wp2
        go_ret
        exact ⟨by rw [HF2.out]; rfl, HB.out⟩
      | true =>
        go_wp2_with (with_reducible refine wpList_load_mid rfl NdT (.tmp 22) rfl b (o + k * 10) rfl (ndLL n a) _ HR.out Try.underlying38 rfl infoNd16 ?_)
        refine HBy.out.mono ?_
        rintro e w3 ⟨A1, c1, rfl, -, hb⟩
        have HB2 := hid (HB.out.trans (hb.mono HB.out.size))
        clear hb HB HBy HR
        cases rb with
        | false =>
          have he3 : er = 3 := HE.out
          subst he3
          have HF2 := hid (HF.out (by rw [HAR.out]; rfl))
          clear HE
          go_wp2
          go_ret
          exact ⟨by rw [HF2.out]; rfl, HB2.out⟩
        | true =>
          have he3 : er = 0 := HE.out
          subst he3
          clear HE
          have HAT : Hid (arB n k = true) := hid (by rw [HAR.out]; rfl)
          go_wp2
          have hk := HK.out; have hlt := HLT.out
          go_roundg (t.length - (k + 1))
          case measure => clear hw1; omega
          case rel => exact ⟨k + 1, by clear hw1; omega, by first | rfl | (rw [hw1]; rfl), fun j n2 hj hn2 => by
            rcases Nat.lt_or_ge j k with h1 | h1
            · exact HNO.out j n2 h1 hn2
            · obtain rfl : j = k := by clear hw1; omega
              rw [HN.out] at hn2
              rw [← Option.some.inj hn2]; exact HAT.out, HB2.out⟩
    · have hge : ¬ (k : Int) < (t.length : Int) := by omega
      have HT : Hid (decide (AreR t) = true) := hid (decide_eq_true (arB_iff.1 fun j n hn => HNO.out j n (by have := HK.out; have := (List.getElem?_eq_some_iff.1 hn).1; omega) hn))
      clear hlt
      go_wp2
      go_ret
      exact ⟨by rw [HT.out]; rfl, HB.out⟩
end Go.Proofs.Ythooibljnfnnhaa
end
section
namespace Go.Proofs.Ythooibljnfnnhaa
open Go Go.RowKit
set_option linter.unusedVariables false
set_option linter.unusedSimpArgs false
/-- The block that a slice lies in. -/
def blkOf (A : Option Addr) : Option Nat := A.map (·.block)
theorem ownBlock_slice (A : Option Addr) (n c : Nat) : (Value.slice A n c).ownBlock = blkOf A := by cases A <;> rfl
abbrev na00 : NA := ⟨la0, pa0⟩
/-- A leaf's bytes, a node's lists are rows of one's own. -/
def LfO (w : World) (B : Nat) (x : Lf) (a : LA) : Prop := OwnB w B (.slice a.a0 x.box.length a.c0) x.box ∧ OwnB w B (.slice a.a1 x.sign.length a.c1) x.sign ∧ OwnB w B (.slice a.a2 x.ident.length a.c2) x.ident ∧ OwnB w B (.slice a.a3 x.par.length a.c3) x.par ∧ OwnB w B (.slice a.a4 x.sig.length a.c4) x.sig
def NdO (w : World) (B : Nat) (n : Nd) (a : NA) : Prop := LfO w B n.x a.l ∧ OwnB w B (.slice a.p.a0 n.u.box.length a.p.c0) n.u.box ∧ OwnB w B (.slice a.p.a1 n.u.hash.length a.p.c1) n.u.hash ∧ w.ownsRow B 3 1 (.slice a.p.a2 n.u.late.length a.p.c2) n.u.late.length (izs n.u.late)
theorem own_isT {w : World} {B g n : Nat} {e : TypeId} {v : Value} {xs : List Value} (h : w.ownsRow B e 1 v n xs) (hv : v.ownBlock = some g) : ∃ cs, w.heap[g]? = some (.cells cs e (0, 0)) := by
  unfold World.ownsRow at h
  rcases h.2 with ⟨h1, _⟩ | ⟨g', cap, cur, h1, _, h3, _⟩
  · rw [h1] at hv; cases hv
  · rw [h1] at hv
    simp only [Value.ownBlock, Option.some.injEq] at hv
    subst hv
    exact ⟨cur, h3⟩
theorem own_otherT {w w' : World} {B g n : Nat} {e t : TypeId} {v : Value} {xs : List Value} {cs : Array Value} (h : w.ownsRow B e 1 v n xs) (hg : w.heap[g]? = some (.cells cs t (0, 0))) (ht : t ≠ e) (hw : w.grownBy w' (some g)) : w'.ownsRow B e 1 v n xs :=
  h.kept hw (.inr fun he => by
    obtain ⟨cs', h'⟩ := own_isT h he
    rw [hg] at h'
    injection h' with h'
    injection h' with _ h' _
    exact ht h')
theorem own_elseB {w w' : World} {B g n : Nat} {e : TypeId} {v : Value} {xs : List Value} (h : w.ownsRow B e 1 v n xs) (hw : w.grownBy w' (some g)) (hne : v.ownBlock ≠ some g) : w'.ownsRow B e 1 v n xs := h.kept hw (.inr hne)
theorem NdO.on {w w' : World} {B : Nat} {n : Nd} {a : NA} (h : NdO w B n a) (hb : Below w.heap.size w w') : NdO w' B n a := ⟨⟨own_on h.1.1 hb, own_on h.1.2.1 hb, own_on h.1.2.2.1 hb, own_on h.1.2.2.2.1 hb, own_on h.1.2.2.2.2 hb⟩, own_on h.2.1 hb, own_on h.2.2.1 hb, own_on h.2.2.2 hb⟩
theorem NdO.le {w : World} {B B' : Nat} {n : Nd} {a : NA} (h : NdO w B' n a) (hb : B ≤ B') : NdO w B n a := ⟨⟨own_le h.1.1 hb, own_le h.1.2.1 hb, own_le h.1.2.2.1 hb, own_le h.1.2.2.2.1 hb, own_le h.1.2.2.2.2 hb⟩, own_le h.2.1 hb, own_le h.2.2.1 hb, own_le h.2.2.2 hb⟩
theorem NdO.store {w w' : World} {B g : Nat} {n : Nd} {a : NA} {cs : Array Value} (h : NdO w B n a) (hg : w.heap[g]? = some (.cells cs NdT (0, 0))) (hw : w.grownBy w' (some g)) : NdO w' B n a :=
  ⟨⟨own_otherT h.1.1 hg (by decide) hw, own_otherT h.1.2.1 hg (by decide) hw, own_otherT h.1.2.2.1 hg (by decide) hw, own_otherT h.1.2.2.2.1 hg (by decide) hw, own_otherT h.1.2.2.2.2 hg (by decide) hw⟩, own_otherT h.2.1 hg (by decide) hw, own_otherT h.2.2.1 hg (by decide) hw, own_otherT h.2.2.2 hg (by decide) hw⟩
/-- The late places' own block, or none, was written: all but them stays. -/
theorem NdO.late {w w' : World} {B g : Nat} {n : Nd} {a : NA} {cs : Array Value} (h : NdO w B n a) (hg : w.heap[g]? = some (.cells cs 3 (0, 0))) (hw : w.grownBy w' (some g)) (hne : blkOf a.p.a2 ≠ some g) : NdO w' B n a :=
  ⟨⟨own_otherT h.1.1 hg (by decide) hw, own_otherT h.1.2.1 hg (by decide) hw, own_otherT h.1.2.2.1 hg (by decide) hw, own_otherT h.1.2.2.2.1 hg (by decide) hw, own_otherT h.1.2.2.2.2 hg (by decide) hw⟩, own_otherT h.2.1 hg (by decide) hw, own_otherT h.2.2.1 hg (by decide) hw, own_elseB h.2.2.2 hw (by rw [ownBlock_slice]; exact hne)⟩
theorem nil_ownR (w : World) (B : Nat) (e : TypeId) : w.ownsRow B e 1 (.slice none 0 0) 0 [] := World.ownsRow_nil w B e 1
theorem nd00_own (w : World) (B : Nat) : NdO w B nd00 na00 := ⟨⟨nil_ownR w B _, nil_ownR w B _, nil_ownR w B _, nil_ownR w B _, nil_ownR w B _⟩, nil_ownR w B _, nil_ownR w B _, nil_ownR w B _⟩
theorem NdO.in_ {w : World} {B : Nat} {n : Nd} {a : NA} (h : NdO w B n a) : NdIn w w.heap.size n a := ⟨⟨Lie.of_own h.1.1, Lie.of_own h.1.2.1, Lie.of_own h.1.2.2.1, Lie.of_own h.1.2.2.2.1, Lie.of_own h.1.2.2.2.2⟩, Lie.of_own h.2.1, Lie.of_own h.2.2.1, Lie.of_own h.2.2.2⟩
/-- A tree of one's own: its nodes' row in the block g, of so many places; what its nodes hold; no two lists of late places in one block. -/
structure MT (w : World) (B g C : Nat) (t : List Nd) (ad : List NA) : Prop where
  len : ad.length = t.length
  base : B ≤ g
  blk : ∃ cur, w.heap[g]? = some (.cells cur NdT (0, 0)) ∧ cur.size = C * 10
  cap : t.length ≤ C ∧ C ≤ 9223372036854775807
  row : ∀ (j : Nat) (n : Nd) (a : NA), t[j]? = some n → ad[j]? = some a → w.rangeAt g (j * 10) (ndL n a)
  nodes : ∀ (j : Nat) (n : Nd) (a : NA), t[j]? = some n → ad[j]? = some a → NdO w B n a
  apart : ∀ (i j : Nat) (a b : NA) (k : Nat), i ≠ j → ad[i]? = some a → ad[j]? = some b → blkOf a.p.a2 = some k → blkOf b.p.a2 ≠ some k
theorem MT.lt {w : World} {B g C : Nat} {t : List Nd} {ad : List NA} (h : MT w B g C t ad) : g < w.heap.size := by obtain ⟨cur, h1, -⟩ := h.blk; exact block_lt h1
theorem MT.on {w w' : World} {B g C : Nat} {t : List Nd} {ad : List NA} (h : MT w B g C t ad) (hb : Below w.heap.size w w') : MT w' B g C t ad := by
  obtain ⟨cur, h1, h2⟩ := h.blk
  exact ⟨h.len, h.base, ⟨cur, (hb.block _ (block_lt h1)).trans h1, h2⟩, h.cap, fun j n a hn ha c u hu => (hb.cell (p := ⟨g, j * 10 + c, none⟩) h.lt).trans (h.row j n a hn ha c u hu), fun j n a hn ha => (h.nodes j n a hn ha).on hb, h.apart⟩
theorem MT.le {w : World} {B B' g C : Nat} {t : List Nd} {ad : List NA} (h : MT w B' g C t ad) (hb : B ≤ B') : MT w B g C t ad := ⟨h.len, Nat.le_trans hb h.base, h.blk, h.cap, h.row, fun j n a hn ha => (h.nodes j n a hn ha).le hb, h.apart⟩
theorem trL_at {t : List Nd} {ad : List NA} {m : Nat} {u : Value} (h : (trL t ad)[m]? = some u) : ∃ (j c : Nat) (n : Nd) (a : NA), m = j * 10 + c ∧ t[j]? = some n ∧ ad[j]? = some a ∧ (ndL n a)[c]? = some u := by
  induction t generalizing ad m with
  | nil => unfold trL at h; simp at h
  | cons n t ih =>
    cases ad with
    | nil => unfold trL at h; simp at h
    | cons a ad =>
      have hst : trL (n :: t) (a :: ad) = ndL n a ++ trL t ad := by unfold trL; simp
      rw [hst] at h
      rcases Nat.lt_or_ge m 10 with h1 | h1
      · rw [List.getElem?_append_left (by rw [ndL_length]; exact h1)] at h
        exact ⟨0, m, n, a, by omega, rfl, rfl, h⟩
      · rw [List.getElem?_append_right (by rw [ndL_length]; exact h1), ndL_length] at h
        obtain ⟨j, c, n', a', e, h2, h3, h4⟩ := ih h
        exact ⟨j + 1, c, n', a', by omega, by rw [List.getElem?_cons_succ]; exact h2, by rw [List.getElem?_cons_succ]; exact h3, h4⟩
theorem own_caps {w : World} {B n c : Nat} {e : TypeId} {A : Option Addr} {xs : List Value} (h : w.ownsRow B e 1 (.slice A n c) n xs) : n ≤ c ∧ c ≤ 9223372036854775807 := by
  rcases h.2 with ⟨h1, h2⟩ | ⟨g', cap, cur, h1, _, h3, h4, h5, _⟩
  · injection h1 with _ h1 h3; omega
  · injection h1 with _ _ h6
    subst h6
    exact ⟨h4, by unfold maxLen at h5; omega⟩
theorem MT.tr {w : World} {B g C : Nat} {t : List Nd} {ad : List NA} (h : MT w B g C t ad) : TrQ w w.heap.size (some ⟨g, 0, none⟩) C t ad where
  tr := ⟨h.len, fun _ => ⟨g, 0, rfl, h.lt, fun m u hu => by
    obtain ⟨j, c, n, a, rfl, hn, ha, hc⟩ := trL_at hu
    rw [Nat.zero_add]
    exact h.row j n a hn ha c u hc⟩, fun j n a hn ha => (h.nodes j n a hn ha).in_⟩
  cap := h.cap
  late := fun j n a hn ha => own_caps (h.nodes j n a hn ha).2.2.2
theorem setCells_blk (g : Nat) (T : TypeId) : ∀ (vs : List Value) (o : Nat) (w : World) (cur : Array Value), w.heap[g]? = some (.cells cur T (0, 0)) → ∃ cur', (w.setCells g o vs).heap[g]? = some (.cells cur' T (0, 0)) ∧ cur'.size = cur.size
  | [], o, w, cur, h => ⟨cur, h, rfl⟩
  | v :: r, o, w, cur, h => by
    obtain ⟨c', h1, h2⟩ := setCells_blk g T r (o + 1) (w.setCell ⟨g, o, none⟩ v) _ (block_set h o v)
    exact ⟨c', h1, by rw [h2]; simp⟩
theorem setCells_grown (g : Nat) : ∀ (vs : List Value) (o : Nat) (w : World), w.grownBy (w.setCells g o vs) (some g)
  | [], _, w => World.grownBy.refl w _
  | v :: r, o, w => grown_step (grown_setCell w g o none v) (.inl rfl) (setCells_grown g r (o + 1) (w.setCell ⟨g, o, none⟩ v))
theorem there_blk {w : World} {g o n : Nat} {cs : Array Value} {t : TypeId} (h : w.heap[g]? = some (.cells cs t (0, 0))) (hn : o + n ≤ cs.size) : w.there g o n := fun j hj =>
  ⟨by rw [cell_of h (o + j) (cs[o + j]'(by omega)) (Array.getElem?_eq_getElem _)]; rfl, frozen_of_row _ _ _ _ _ h⟩
theorem MT.there {w : World} {B g C : Nat} {t : List Nd} {ad : List NA} (h : MT w B g C t ad) {j : Nat} (hj : j < t.length) : w.there g (j * 10) 10 := by
  obtain ⟨cur, h1, h2⟩ := h.blk
  exact there_blk h1 (by rw [h2]; have := h.cap.1; omega)
theorem MT.at_ {w : World} {B g C : Nat} {t : List Nd} {ad : List NA} (h : MT w B g C t ad) {j : Nat} (hj : j < t.length) : ∃ n a, t[j]? = some n ∧ ad[j]? = some a ∧ n = nAt t j ∧ NdO w B n a ∧ w.rangeAt g (j * 10) (ndL n a) := by
  obtain ⟨n, hn⟩ : ∃ n, t[j]? = some n := ⟨_, List.getElem?_eq_getElem hj⟩
  obtain ⟨a, ha⟩ : ∃ a, ad[j]? = some a := ⟨_, List.getElem?_eq_getElem (by rw [h.len]; exact hj)⟩
  exact ⟨n, a, hn, ha, (nd_getE hn).symm, h.nodes j n a hn ha, h.row j n a hn ha⟩
theorem set_get {α : Type} {l : List α} {i j : Nat} {x y : α} (h : (l.set j x)[i]? = some y) : (i = j ∧ y = x) ∨ (i ≠ j ∧ l[i]? = some y) := by
  rw [List.getElem?_set] at h
  by_cases he : j = i
  · rw [if_pos he] at h
    by_cases hl : i < l.length
    · rw [he] at h; rw [if_pos hl] at h
      exact .inl ⟨he.symm, (Option.some.inj h).symm⟩
    · rw [he] at h; rw [if_neg hl] at h; cases h
  · rw [if_neg he] at h
    exact .inr ⟨fun e => he e.symm, h⟩
/-- A node of one's own stored at a place. -/
theorem MT.set {w : World} {B g C : Nat} {t : List Nd} {ad : List NA} (h : MT w B g C t ad) {j : Nat} (hj : j < t.length) {n : Nd} {a : NA} (ho : NdO w B n a) (hap : ∀ (i : Nat) (b : NA) (k : Nat), i ≠ j → ad[i]? = some b → blkOf a.p.a2 = some k → blkOf b.p.a2 ≠ some k) :
    MT (w.setCells g (j * 10) (ndL n a)) B g C (t.set j n) (ad.set j a) := by
  obtain ⟨cur, h1, h2⟩ := h.blk
  obtain ⟨cur', h3, h4⟩ := setCells_blk g NdT (ndL n a) (j * 10) w cur h1
  have hgr := setCells_grown g (ndL n a) (j * 10) w
  refine ⟨by rw [List.length_set, List.length_set, h.len], h.base, ⟨cur', h3, h4.trans h2⟩, by rw [List.length_set]; exact h.cap, fun i m b hm hb => ?_, fun i m b hm hb => ?_, fun i i' b b' k hne hb hb' hk => ?_⟩
  · rcases set_get hm with ⟨rfl, rfl⟩ | ⟨h5, h6⟩
    · rcases set_get hb with ⟨-, rfl⟩ | ⟨h7, -⟩
      · exact World.rangeAt_setCells_same w g (i * 10) (ndL m b) (h.there hj)
      · exact absurd rfl h7
    · rcases set_get hb with ⟨h7, -⟩ | ⟨-, h8⟩
      · exact absurd h7 h5
      · refine World.rangeAt_setCells_apart (h.row i m b h6 h8) g (j * 10) _ (.inr ?_)
        rw [ndL_length, ndL_length]
        omega
  · rcases set_get hm with ⟨rfl, rfl⟩ | ⟨h5, h6⟩
    · rcases set_get hb with ⟨-, rfl⟩ | ⟨h7, -⟩
      · exact ho.store h1 hgr
      · exact absurd rfl h7
    · rcases set_get hb with ⟨h7, -⟩ | ⟨-, h8⟩
      · exact absurd h7 h5
      · exact (h.nodes i m b h6 h8).store h1 hgr
  · rcases set_get hb with ⟨rfl, rfl⟩ | ⟨h5, h6⟩
    · rcases set_get hb' with ⟨h7, -⟩ | ⟨h7, h8⟩
      · exact absurd h7.symm hne
      · exact hap i' b' k h7 h8 hk
    · rcases set_get hb' with ⟨rfl, rfl⟩ | ⟨h7, h8⟩
      · intro hk'
        exact hap i b k h5 h6 hk' hk
      · exact h.apart i i' b b' k hne h6 h8 hk
theorem infoNdB : (Try.prog.info? NdT).map (fun i => (i.zero, i.size, i.bytes)) = some (some (.agg ndZ), 10, 208) := by kernel_rfl
theorem mkN (n : Nat) (hn : n ≤ 1000000) (W : World) : (Instr.makeSlice 22 (.int .i64 (n : Int)) (.int .i64 (n : Int))).run Try.prog W = .ok (.slice (some ⟨W.heap.size, 0, none⟩) n n) (W.alloc (.cells (madeCells ndZ (n * 10)) NdT)) := by
  obtain ⟨i, hi, hz, hsize, hby⟩ := info_parts infoNdB
  have h := run_make (P := Try.prog) W 22 NdT i _ Try.underlying22 hi hz .i64 .i64 (n : Int) (n : Int) (by omega) (by omega) (by rw [hby]; omega) (by omega)
  rw [hsize, Int.toNat_natCast, show (Value.agg ndZ).cells = ndZ from rfl] at h
  exact h
theorem zero_cell (c : Nat) (hc : c < 10) : ndZ[c]! = (ndL nd00 na00)[c]'(by rw [ndL_length]; exact hc) := by
  rcases c with _ | _ | _ | _ | _ | _ | _ | _ | _ | _ | c
  all_goals first | rfl | omega
theorem zero_range {cur : Array Value} {w : World} {g o n : Nat} (h : w.heap[g]? = some (.cells cur NdT (0, 0))) (hc : ∀ m, m < n * 10 → cur[o * 10 + m]? = some (ndZ[m % 10]!)) (j : Nat) (hj : j < n) : w.rangeAt g ((o + j) * 10) (ndL nd00 na00) := fun c u hu => by
  have hc10 : c < 10 := by have := (List.getElem?_eq_some_iff.1 hu).1; rw [ndL_length] at this; exact this
  have h1 := hc (j * 10 + c) (by omega)
  rw [show (j * 10 + c) % 10 = c by omega, zero_cell c hc10] at h1
  rw [show (o + j) * 10 + c = o * 10 + (j * 10 + c) by omega]
  refine cell_of h _ _ (h1.trans ?_)
  rw [← hu, List.getElem?_eq_getElem]
theorem replicate_get {α : Type} {n j : Nat} {x y : α} (h : (List.replicate n x)[j]? = some y) : y = x ∧ j < n := by
  rw [List.getElem?_replicate] at h
  split at h
  · next hj => exact ⟨(Option.some.inj h).symm, hj⟩
  · cases h
theorem MT.made (W : World) (B n : Nat) (hB : B ≤ W.heap.size) (hn : n ≤ 1000000) : MT (W.alloc (.cells (madeCells ndZ (n * 10)) NdT)) B W.heap.size n (List.replicate n nd00) (List.replicate n na00) := by
  have hblk := heap_alloc_new W (.cells (madeCells ndZ (n * 10)) NdT)
  refine ⟨by rw [List.length_replicate, List.length_replicate], hB, ⟨_, hblk, size_madeCells _ _⟩, by rw [List.length_replicate]; omega, fun j m a hm ha => ?_, fun j m a hm ha => ?_, fun i j a b k hne ha hb hk => ?_⟩
  · obtain ⟨rfl, hj⟩ := replicate_get hm
    obtain ⟨rfl, -⟩ := replicate_get ha
    have h := zero_range (o := 0) (n := n) hblk (fun m hm => by
      unfold madeCells
      rw [Nat.zero_mul, Nat.zero_add, Array.getElem?_map, Array.getElem?_range, if_pos hm]
      rfl) j hj
    rw [Nat.zero_add] at h
    exact h
  · obtain ⟨rfl, -⟩ := replicate_get hm
    obtain ⟨rfl, -⟩ := replicate_get ha
    exact nd00_own _ _
  · obtain ⟨rfl, -⟩ := replicate_get ha
    cases hk
theorem MT.take {w : World} {B g C : Nat} {t : List Nd} {ad : List NA} (h : MT w B g C t ad) (n : Nat) : MT w B g C (t.take n) (ad.take n) := by
  have hg : ∀ {α : Type} {l : List α} {i : Nat} {x : α}, (l.take n)[i]? = some x → l[i]? = some x := fun {α l i x} hx => by
    rw [List.getElem?_take] at hx
    split at hx
    · exact hx
    · cases hx
  exact ⟨by rw [List.length_take, List.length_take, h.len], h.base, h.blk, by rw [List.length_take]; have := h.cap; omega, fun j m a hm ha => h.row j m a (hg hm) (hg ha), fun j m a hm ha => h.nodes j m a (hg hm) (hg ha), fun i j a b k hne ha hb hk => h.apart i j a b k hne (hg ha) (hg hb) hk⟩
theorem append_get {α : Type} {l r : List α} {i : Nat} {x : α} (h : (l ++ r)[i]? = some x) : (i < l.length ∧ l[i]? = some x) ∨ (l.length ≤ i ∧ r[i - l.length]? = some x) := by
  rcases Nat.lt_or_ge i l.length with h1 | h1
  · rw [List.getElem?_append_left h1] at h; exact .inl ⟨h1, h⟩
  · rw [List.getElem?_append_right h1] at h; exact .inr ⟨h1, h⟩
/-- Blank nodes behind a tree that fills its row. -/
theorem MT.more {w : World} {B g : Nat} {t : List Nd} {ad : List NA} (h : MT w B g t.length t ad) (hB : B ≤ w.heap.size) (k : Nat) (h0 : 0 < k) (hk : t.length + k ≤ 1000000) (ty : TypeId) :
    ∃ g' C' w', (Builtin.append_ #[22, 3] ty #[.slice (some ⟨g, 0, none⟩) t.length t.length, .int .i64 (k : Int)]).run Try.prog w = .ok (.slice (some ⟨g', 0, none⟩) (t.length + k) C') w' ∧ MT w' B g' C' (t ++ List.replicate k nd00) (ad ++ List.replicate k na00) ∧ Below w.heap.size w w' := by
  obtain ⟨i, hi, hz, hsize, hby⟩ := info_parts infoNdB
  have hold : (Builtin.firstCells i.size t.length (.slice (some ⟨g, 0, none⟩) t.length t.length)).run Try.prog w.drew = .ok (trL t ad).toArray w.drew := by
    show (loadCells ⟨g, 0, none⟩ (t.length * i.size)).run Try.prog w.drew = _
    rw [hsize, ← trL_length t ad h.len]
    refine run_loadCells_list _ _ _ fun m u hu => ?_
    rw [add_none, Nat.zero_add]
    obtain ⟨j, c, n, a, rfl, hn, ha, hc⟩ := trL_at hu
    exact h.row j n a hn ha c u hc
  have hr := Lib.run_append_grow_zeros w 22 3 ty NdT i _ .i64 .i64 Try.underlying22 Try.underlying3 hi hz (some ⟨g, 0, none⟩) t.length t.length (trL t ad) hold k h0 (by rw [hsize]; decide) (by omega) (by omega) (by rw [hby]; omega)
    (by rw [hby]; have := nextslicecap_le (need := t.length + k) (old := t.length) (by omega); omega)
  obtain ⟨C', hC'⟩ : ∃ C', C' = grownCap w (t.length + k) t.length NdT := ⟨_, rfl⟩
  have hge : t.length + k ≤ C' := by rw [hC']; exact grownCap_ge _ _ _ _
  have hle : C' ≤ 9223372036854775807 := by
    rw [hC']; have := grownCap_le_maxLen w (t.length + k) t.length NdT (by unfold maxLen; omega); unfold maxLen at this; omega
  rw [← hC', show (Value.agg ndZ).cells = ndZ from rfl] at hr
  obtain ⟨cur, hcur⟩ : ∃ c, c = (trL t ad).toArray ++ Builtin.zeroCells ndZ k ++ Builtin.zeroCells ndZ (C' - (t.length + k)) := ⟨_, rfl⟩
  rw [← hcur] at hr
  have hb : Below w.heap.size w (w.drew.alloc (.cells cur NdT)) := ((Below.refl w.heap.size w).drew).alloc (Nat.le_refl _) _
  have hblk : (w.drew.alloc (.cells cur NdT)).heap[w.heap.size]? = some (.cells cur NdT (0, 0)) := heap_alloc_new w.drew (.cells cur NdT)
  have hl1 : (trL t ad).toArray.size = t.length * 10 := by rw [List.size_toArray, trL_length t ad h.len]
  have hz10 : ndZ.size = 10 := rfl
  have hsz : cur.size = C' * 10 := by
    rw [hcur, Array.size_append, Array.size_append, hl1, size_zeroCells, size_zeroCells, hz10]; omega
  refine ⟨w.heap.size, C', _, hr, ?_, hb⟩
  refine ⟨by rw [List.length_append, List.length_append, List.length_replicate, List.length_replicate, h.len], hB, ⟨cur, hblk, hsz⟩, by rw [List.length_append, List.length_replicate]; exact ⟨hge, hle⟩, fun j m a hm ha => ?_, fun j m a hm ha => ?_, fun i j a b x hne ha hb hx => ?_⟩
  · rcases append_get hm with ⟨h1, h2⟩ | ⟨h1, h2⟩
    · rcases append_get ha with ⟨h3, h4⟩ | ⟨h3, -⟩
      · intro c u hu
        have hc10 : c < 10 := by have := (List.getElem?_eq_some_iff.1 hu).1; rw [ndL_length] at this; exact this
        refine cell_of hblk _ _ ?_
        rw [hcur, Array.getElem?_append_left (by rw [Array.size_append, hl1, size_zeroCells, hz10]; omega), Array.getElem?_append_left (by rw [hl1]; omega), List.getElem?_toArray]
        exact trL_get h2 h4 hu
      · rw [h.len] at h3; omega
    · obtain ⟨rfl, hj⟩ := replicate_get h2
      rcases append_get ha with ⟨h3, -⟩ | ⟨h3, h4⟩
      · rw [h.len] at h3; omega
      · obtain ⟨rfl, -⟩ := replicate_get h4
        have hzr := zero_range (o := t.length) (n := k) hblk (fun m hm => by
          rw [hcur, Array.getElem?_append_left (by rw [Array.size_append, hl1, size_zeroCells, hz10]; omega), Array.getElem?_append_right (by rw [hl1]; omega), hl1, Nat.add_sub_cancel_left]
          unfold Builtin.zeroCells
          rw [hz10, Array.getElem?_map, Array.getElem?_range, if_pos hm]
          rfl) (j - t.length) hj
        rw [show t.length + (j - t.length) = j by omega] at hzr
        exact hzr
  · rcases append_get hm with ⟨h1, h2⟩ | ⟨h1, h2⟩
    · rcases append_get ha with ⟨h3, h4⟩ | ⟨h3, -⟩
      · exact (h.nodes j m a h2 h4).on hb
      · rw [h.len] at h3; omega
    · obtain ⟨rfl, hj⟩ := replicate_get h2
      rcases append_get ha with ⟨h3, -⟩ | ⟨h3, h4⟩
      · rw [h.len] at h3; omega
      · obtain ⟨rfl, -⟩ := replicate_get h4
        exact nd00_own _ _
  · rcases append_get ha with ⟨h1, h2⟩ | ⟨h1, h2⟩
    · rcases append_get hb with ⟨h3, h4⟩ | ⟨h3, h4⟩
      · exact h.apart i j a b x hne h2 h4 hx
      · obtain ⟨rfl, -⟩ := replicate_get h4
        intro he; cases he
    · obtain ⟨rfl, -⟩ := replicate_get h2
      cases hx
end Go.Proofs.Ythooibljnfnnhaa
end
section
namespace Go.Proofs.Ythooibljnfnnhaa
open Go Go.RowKit
set_option linter.unusedVariables false
set_option linter.unusedSimpArgs false
theorem own_blk {w : World} {B n c : Nat} {e : TypeId} {A : Option Addr} {xs : List Value} (h : w.ownsRow B e 1 (.slice A n c) n xs) (k : Nat) (hk : blkOf A = some k) : B ≤ k ∧ k < w.heap.size := World.ownsRow.lt h k (by rw [ownBlock_slice]; exact hk)
theorem MT.late_lt {w : World} {B g C : Nat} {t : List Nd} {ad : List NA} (h : MT w B g C t ad) {i : Nat} {b : NA} (hb : ad[i]? = some b) (k : Nat) (hk : blkOf b.p.a2 = some k) : k < w.heap.size := by
  have hi : i < t.length := by rw [← h.len]; exact (List.getElem?_eq_some_iff.1 hb).1
  exact (own_blk (h.nodes i _ b (List.getElem?_eq_getElem hi) hb).2.2.2 k hk).2
theorem MT.fresh {w : World} {B g C N : Nat} {t : List Nd} {ad : List NA} (h : MT w B g C t ad) {A : Option Addr} (hA : ∀ k, blkOf A = some k → N ≤ k) (hN : w.heap.size ≤ N) (i : Nat) (b : NA) (k : Nat) (hb : ad[i]? = some b) (hk : blkOf A = some k) : blkOf b.p.a2 ≠ some k := fun he => by
  have := h.late_lt hb k he
  have := hA k hk
  omega
/-- What a copied node's lists are. -/
theorem ndO_of {W w' : World} {n : Nd} {b : LA} {q : PA} (h : LfOwn W w' n.x b ∧ OwnB w' W.heap.size (.slice q.a0 n.u.box.length q.c0) n.u.box ∧ OwnB w' W.heap.size (.slice q.a1 n.u.hash.length q.c1) n.u.hash ∧ w'.ownsRow W.heap.size 3 1 (.slice q.a2 n.u.late.length q.c2) n.u.late.length (izs n.u.late)) : NdO w' W.heap.size n ⟨b, q⟩ := ⟨⟨h.1.1, h.1.2.1, h.1.2.2.1, h.1.2.2.2.1, h.1.2.2.2.2⟩, h.2.1, h.2.2.1, h.2.2.2⟩
theorem nAt_get {t : List Nd} {x : Nat} {n : Nd} (h : t[x]? = some n) : nAt t x = n := nd_getE h
theorem nAt_ext {t u : List Nd} (hl : t.length = u.length) (h : ∀ x, x < t.length → nAt t x = nAt u x) : t = u := by
  refine List.ext_getElem hl fun x h1 h2 => ?_
  have := h x h1
  rw [nAt_get (List.getElem?_eq_getElem h1), nAt_get (List.getElem?_eq_getElem h2)] at this
  exact this
theorem nAt_set {t : List Nd} {j x : Nat} {n : Nd} (hj : j < t.length) : nAt (t.set j n) x = if x = j then n else nAt t x := by
  unfold nAt
  rw [List.getD_eq_getElem?_getD, List.getD_eq_getElem?_getD, List.getElem?_set]
  by_cases h : x = j
  · rw [if_pos h.symm, if_pos h, if_pos (by omega)]; rfl
  · rw [if_neg (fun e => h e.symm), if_neg h]
set_option maxRecDepth 100000 in
set_option maxHeartbeats 4000000 in
theorem copy_e (A : Option Addr) (t : List Nd) (ad : List NA) (c : Nat) (w : World) (hA : TrIn w w.heap.size A t ad) (hm : TrM t) : Calls Try.prog 23 #[.slice A t.length c] w fun e w' => ∃ g, e = .returned (.slice (some ⟨g, 0, none⟩) t.length t.length) ∧ (∃ ad', MT w' w.heap.size g t.length t ad') ∧ Below w.heap.size w w' := by
  have HA := hid hA; have HM := hid hm
  have hl := hm.1
  have hmk := mkN t.length (by omega)
  have HMK := hid (MT.made w w.heap.size t.length (Nat.le_refl _) (by omega))
  have HB0 : Hid (Below w.heap.size w (w.alloc (.cells (madeCells ndZ (t.length * 10)) NdT))) := hid ((Below.refl _ _).alloc (Nat.le_refl _) _)
  clear hA hm
  go_enter Try.func23, Try.ntmps23
  go_wp2
  go_loopg [10] t.length (fun r i wr => ∃ k : Nat, k + r = t.length ∧ i = .int .i64 (k : Int) ∧ (∃ tt ad', tt.length = t.length ∧ (∀ j, j < k → tt[j]? = t[j]?) ∧ MT wr w.heap.size w.heap.size t.length tt ad') ∧ Below w.heap.size w wr)
  case atStart => exact ⟨0, by omega, rfl, ⟨_, _, List.length_replicate, fun j hj => by omega, HMK.out⟩, HB0.out⟩
  case round =>
    clear HMK HB0 hmk
    obtain ⟨k, hk, rfl, ⟨tt, ad', htl, htt, hmt⟩, hb⟩ := hrel
    have HK := hid hk; have HTT := hid htt; have HB := hid hb; have HMT := hid hmt; have HTL := hid htl
    have hw1 : wrap64 ((k : Int) + 1) = (k : Int) + 1 := wrap64_in (by omega) (by omega)
    clear hk htt hb hmt htl hl
    by_cases hlt : k < t.length
    · have hA2 := HA.out.up HB.out
      obtain ⟨b, o, n, a, rfl, hbl, hn, -, hni, hr⟩ := hA2.at_ hlt
      have hx : (k : Int) < (t.length : Int) := by omega
      have h0 : (0 : Int) ≤ (k : Int) := by omega
      have HR := hid (rng_ll hr)
      have HN := hid hn; have HLT := hid hlt
      have HC := hid (node_copy n.k n.x a.l n.u a.p wr ⟨hni.1, hni.2, HM.out.2 k n hn⟩)
      clear hn hr hlt hni hA2
      go_wp2_with (with_reducible refine wpList_load_mid rfl NdT (.tmp 17) rfl b (o + k * 10) rfl (ndLL n a) _ HR.out Try.underlying38 rfl infoNd16 ?_)
      refine HC.out.mono ?_
      rintro e w2 ⟨lb, q, rfl, ho1, ho2, ho3, ho4, hb⟩
      have hnd := ndO_of (n := n) ⟨ho1, ho2, ho3, ho4⟩
      have hmt2 := HMT.out.on hb
      have hkt : k < tt.length := by rw [HTL.out]; exact HLT.out
      have HTH : Hid (w2.there w.heap.size (k * 10) (ndV n.k n.x lb n.u q).size) := hid (hmt2.there hkt)
      have HM2 := hid (hmt2.set hkt (hnd.le HB.out.size) (fun i bb x hi hbb hx => HMT.out.fresh (fun k hk => (own_blk ho4 k hk).1) (Nat.le_refl _) i bb x hbb hx))
      have HB2 : Hid (Below w.heap.size w (w2.setCells w.heap.size (k * 10) (ndL n ⟨lb, q⟩))) := hid ((HB.out.trans (hb.mono HB.out.size)).grown (setCells_grown _ _ _ _) (Nat.le_trans HB.out.size hb.size) (fun g hg => by cases hg; exact Nat.le_refl _))
      clear hb HC HR ho1 ho2 ho3 ho4 hnd hmt2 HMT hkt HB
      go_wp2_with (with_reducible refine wpList_store_mid rfl NdT (.tmp 20) (.tmp 19) rfl w.heap.size (k * 10) (ndV n.k n.x lb n.u q) rfl rfl HTH.out infoNd16 ndV_one ?_)
      have hk := HK.out; have hlt := HLT.out
      go_roundg (t.length - (k + 1))
      case measure => clear hw1; omega
      case rel => exact ⟨k + 1, by clear hw1; omega, by first | rfl | (rw [hw1]; rfl), ⟨_, _, by rw [List.length_set]; exact HTL.out, fun j hj => by
        rw [List.getElem?_set]
        by_cases hjk : k = j
        · rw [if_pos hjk, if_pos (by rw [HTL.out]; omega), ← hjk]; exact HN.out.symm
        · rw [if_neg hjk]; exact HTT.out j (by clear hw1; omega), HM2.out⟩, HB2.out⟩
    · have hge : ¬ (k : Int) < (t.length : Int) := by omega
      obtain rfl : k = t.length := by have := HK.out; omega
      have hte : tt = t := List.ext_getElem? fun j => by
        rcases Nat.lt_or_ge j t.length with h1 | h1
        · exact HTT.out j h1
        · rw [List.getElem?_eq_none h1, List.getElem?_eq_none (by rw [HTL.out]; exact h1)]
      rw [hte] at HMT
      clear hlt hte
      go_wp2
      go_ret
      exact ⟨_, rfl, ⟨_, HMT.out⟩, HB.out⟩
set_option maxRecDepth 100000 in
set_option maxHeartbeats 4000000 in
theorem put_e (B g C : Nat) (t : List Nd) (ad : List NA) (i : Nat) (l : Lf) (la : LA) (w : World) (hM : MT w B g C t ad) (hB : B ≤ w.heap.size) (hi : 2 * i < t.length) (hl : t.length ≤ 1000000) (hx : LfIn w l la) (hlm : LfM l) :
    Calls Try.prog 49 #[.slice (some ⟨g, 0, none⟩) t.length C, .int .i64 (i : Int), .agg (lfV l la)] w fun e w' => e = .returned (.tuple #[]) ∧ (∃ ad', MT w' B g C (t.set (2 * i) ⟨1, l, pr0⟩) ad') ∧ Below B w w' := by
  have K1 := hid (heap_alloc_new w (.cells (lfV l la) LfT))
  have HB0 : Hid (Below w.heap.size w (w.alloc (.cells (lfV l la) LfT))) := hid ((Below.refl _ _).alloc (Nat.le_refl _) _)
  have x0 := cell_of K1.out 0 _ rfl; have x1 := cell_of K1.out 1 _ rfl; have x2 := cell_of K1.out 2 _ rfl; have x3 := cell_of K1.out 3 _ rfl; have x4 := cell_of K1.out 4 _ rfl; have x5 := cell_of K1.out 5 _ rfl
  have hbuild : ∀ W : World, (Instr.build NdT #[(0, .int .u8 1), (1, .agg (lfV l la))]).run Try.prog W = .ok (.agg (ndV 1 l la pr0 pa0)) W := fun W => run_build W NdT _ _ (by kernel_rfl)
  have HC : Hid (∀ W, Below w.heap.size w W → Calls Try.prog 37 #[.agg (ndV 1 l la pr0 pa0)] W fun e w' => ∃ b q, e = .returned (.agg (ndV 1 l b pr0 q)) ∧ LfOwn W w' l b ∧ OwnB w' W.heap.size (.slice q.a0 pr0.box.length q.c0) pr0.box ∧ OwnB w' W.heap.size (.slice q.a1 pr0.hash.length q.c1) pr0.hash ∧ w'.ownsRow W.heap.size 3 1 (.slice q.a2 pr0.late.length q.c2) pr0.late.length (izs pr0.late) ∧ Below W.heap.size W w') := hid fun W hb => node_copy 1 l la pr0 pa0 W ⟨hx.on hb, pr0_in W, hlm, by unfold PrM; decide, by decide, fun v hv => by cases hv⟩
  have HM := hid hM; have HBB := hid hB; have HI := hid hi
  obtain ⟨m, hm⟩ : ∃ m, m = 2 * i := ⟨_, rfl⟩
  have hw2 : wrap64 (2 * (i : Int)) = (m : Int) := (wrap64_in (by omega) (by omega)).trans (by omega)
  have hmi : (m : Int) < (t.length : Int) := by omega
  have hm0 : (0 : Int) ≤ (m : Int) := by omega
  rw [← hm] at HI ⊢
  clear hM hB hi hl hx hlm hm
  go_enter Try.func49, Try.ntmps49
  go_wp2_with fail
  refine (HC.out _ HB0.out).mono ?_
  rintro e w2 ⟨lb, q, rfl, ho1, ho2, ho3, ho4, hb⟩
  have hnd := ndO_of (n := ⟨1, l, pr0⟩) ⟨ho1, ho2, ho3, ho4⟩
  have hmt1 := HM.out.on HB0.out
  have hmt2 := hmt1.on hb
  have HTH : Hid (w2.there g (m * 10) (ndV 1 l lb pr0 q).size) := hid (hmt2.there HI.out)
  have HM2 := hid (hmt2.set HI.out (hnd.le (Nat.le_trans HBB.out HB0.out.size)) (fun i bb x hi hbb hx => hmt1.fresh (fun k hk => (own_blk ho4 k hk).1) (Nat.le_refl _) i bb x hbb hx))
  have HB2 : Hid (Below B w (w2.setCells g (m * 10) (ndL ⟨1, l, pr0⟩ ⟨lb, q⟩))) := hid (((HB0.out.mono HBB.out).trans (hb.mono (Nat.le_trans HBB.out HB0.out.size))).grown (setCells_grown _ _ _ _) (Nat.le_trans HBB.out (Nat.le_trans HB0.out.size hb.size)) (fun g' hg => by cases hg; exact HM.out.base))
  clear hb HC ho1 ho2 ho3 ho4 hnd hmt1 hmt2 HB0 x0 x1 x2 x3 x4 x5 hbuild K1
  go_wp2_with (with_reducible refine wpList_store_mid rfl NdT (.tmp 12) (.tmp 11) rfl g (m * 10) (ndV 1 l lb pr0 q) rfl rfl HTH.out infoNd16 ndV_one ?_)
  go_end0
  exact ⟨rfl, ⟨_, HM2.out⟩, HB2.out⟩
end Go.Proofs.Ythooibljnfnnhaa
end
section
namespace Go.Proofs.Ythooibljnfnnhaa
open Go Go.RowKit
set_option linter.unusedVariables false
set_option linter.unusedSimpArgs false
/-- A row of one's own, told by its cells. -/
theorem own_of_cells {w : World} {B b c n : Nat} {e : TypeId} {cur : Array Value} {L : List Value} (hB : B ≤ b) (hb : w.heap[b]? = some (.cells cur e (0, 0))) (hn : L.length = n) (hnc : n ≤ c) (hc : c ≤ 9223372036854775807) (hs : cur.size = c * 1) (hL : ∀ (j : Nat) (u : Value), L[j]? = some u → w.cell? ⟨b, j, none⟩ = some u) :
    w.ownsRow B e 1 (.slice (some ⟨b, 0, none⟩) n c) n L := by
  refine ⟨by rw [hn, Nat.mul_one], .inr ⟨b, c, cur, rfl, hB, hb, hnc, by unfold maxLen; exact hc, hs, ?_⟩⟩
  have hz : cur.toList.length = c := by rw [Array.length_toList, hs, Nat.mul_one]
  apply List.ext_getElem?
  intro j
  rw [Nat.mul_one, List.getElem?_take]
  split
  · next hj =>
    have hlt : j < L.length := by omega
    have h := hL j L[j] (List.getElem?_eq_getElem hlt)
    unfold World.cell? at h
    rw [show (⟨b, j, none⟩ : Addr).block = b from rfl, hb] at h
    rw [List.getElem?_eq_getElem hlt, Array.getElem?_toList]
    simpa using h
  · next hj => rw [List.getElem?_eq_none (by omega)]
theorem shape_of {w : World} {b : Nat} {e : TypeId} {cur : Array Value} (h : w.heap[b]? = some (.cells cur e (0, 0))) : w.shape? b = some (e, cur.size) := by unfold World.shape?; rw [h]
theorem insL_get {xs : List Int} {v : Int} {k j : Nat} {u : Value} (hk : k ≤ xs.length) (h : (izs (xs.take k ++ v :: xs.drop k))[j]? = some u) :
    (j < k ∧ (izs xs)[j]? = some u) ∨ (j = k ∧ u = .int .i64 v) ∨ (k < j ∧ ((izs xs).drop k)[j - (k + 1)]? = some u) := by
  have e : izs (xs.take k ++ v :: xs.drop k) = (izs xs).take k ++ .int .i64 v :: (izs xs).drop k := by unfold izs; simp [List.map_take, List.map_drop]
  rw [e] at h
  have hl : ((izs xs).take k).length = k := by rw [List.length_take, izs_length]; omega
  rcases Nat.lt_trichotomy j k with h1 | h1 | h1
  · rw [List.getElem?_append_left (by omega), List.getElem?_take, if_pos h1] at h
    exact .inl ⟨h1, h⟩
  · subst h1
    rw [List.getElem?_append_right (by omega), hl, Nat.sub_self, List.getElem?_cons_zero] at h
    exact .inr (.inl ⟨rfl, (Option.some.inj h).symm⟩)
  · rw [List.getElem?_append_right (by omega), hl, show j - k = (j - (k + 1)) + 1 by omega, List.getElem?_cons_succ] at h
    exact .inr (.inr ⟨h1, h⟩)
theorem insL_len (xs : List Int) (v : Int) (k : Nat) (hk : k ≤ xs.length) : (izs (xs.take k ++ v :: xs.drop k)).length = xs.length + 1 := by
  rw [izs_length, List.length_append, List.length_take, List.length_cons, List.length_drop]; omega
theorem grown_noneTo {w w' : World} {row : Option Nat} (h : w.grownBy w' none) : w.grownBy w' row := ⟨h.os, h.tape, h.output, h.size, fun k hk _ => h.block k hk (by simp)⟩
theorem grown_drewS {w a : World} {row : Option Nat} (h : w.grownBy a row) : w.grownBy a.drew row := ⟨h.os, h.tape, h.output, h.size, h.block⟩
theorem Ins_e (A : Option Addr) (xs : List Int) (c k : Nat) (v : Int) (vb B : Nat) (w : World) (ho : w.ownsRow B 3 1 (.slice A xs.length c) xs.length (izs xs)) (hk : k ≤ xs.length) (hl : xs.length ≤ 1000000) (hB : B ≤ w.heap.size)
    (hv : w.heap[vb]? = some (.cells #[.int .i64 v] 3 (0, 0))) (hne : blkOf A ≠ some vb) :
    Calls Try.prog 75 #[.slice A xs.length c, .int .i64 (k : Int), .slice (some ⟨vb, 0, none⟩) 1 1] w fun e w' => ∃ A' c', e = .returned (.slice A' (xs.length + 1) c') ∧
      w'.ownsRow B 3 1 (.slice A' (xs.length + 1) c') (xs.length + 1) (izs (xs.take k ++ v :: xs.drop k)) ∧ (blkOf A' = blkOf A ∨ ∃ h, blkOf A' = some h ∧ w.heap.size ≤ h) ∧ w.grownBy w' (blkOf A) := by
  have hvs : ∀ (j : Nat) (u : Value), [Value.int .i64 v][j]? = some u → w.cell? ⟨vb, 0 + j, none⟩ = some u := fun j u hu => by
    rw [Nat.zero_add]
    refine cell_of hv j u ?_
    rcases j with _ | j
    · exact hu
    · simp at hu
  have h1v : ∀ u ∈ [Value.int .i64 v], u.oneCell' = true := by intro u hu; simp at hu; subst hu; rfl
  have h1c := izs_one xs
  have hcl := izs_length xs
  have hll := insL_len xs v k hk
  -- what of the row is told
  have hform : (A = none ∧ c = 0 ∧ xs = []) ∨ ∃ b cur, A = some ⟨b, 0, none⟩ ∧ B ≤ b ∧ w.heap[b]? = some (.cells cur 3 (0, 0)) ∧ xs.length ≤ c ∧ c ≤ 9223372036854775807 ∧ cur.size = c * 1 ∧ ∀ (j : Nat) (u : Value), (izs xs)[j]? = some u → w.cell? ⟨b, 0 + j, none⟩ = some u := by
    rcases ho.2 with ⟨h1, h2⟩ | ⟨g, cap, cur, h1, h2, h3, h4, h5, h6, h7⟩
    · injection h1 with e1 e2 e3
      exact .inl ⟨e1, e3, List.eq_nil_of_length_eq_zero h2⟩
    · injection h1 with e1 e2 e3
      subst e3
      refine .inr ⟨g, cur, e1, h2, h3, h4, by unfold maxLen at h5; omega, h6, fun j u hu => ?_⟩
      rw [Nat.zero_add]
      refine cell_of h3 j u ?_
      rw [← h7, List.getElem?_take] at hu
      split at hu
      · rw [Array.getElem?_toList] at hu; exact hu
      · cases hu
  rcases hform with ⟨rfl, rfl, rfl⟩ | ⟨b, cur, rfl, hBb, hb, hnc, hc63, hsz, hcs⟩
  · have hk0 : k = 0 := by simpa using hk
    subst hk0
    have h := Any2.slices_Insert_int_end_grow inLays none 0 0 vb 0 1 1 [] [.int .i64 v] w (by decide) (by decide) (by decide) (by decide) rfl rfl (fun _ => rfl) (fun a ha => by cases ha) hvs h1v
    refine h.mono fun e w' ⟨h1, h2⟩ => ?_
    obtain ⟨C', hC'⟩ : ∃ C', C' = grownCap w (0 + 1) 0 3 := ⟨_, rfl⟩
    have hge : 1 ≤ C' := by rw [hC']; exact grownCap_ge _ _ _ _
    have hle : C' ≤ 9223372036854775807 := by rw [hC']; have := grownCap_le_maxLen w (0 + 1) 0 3 (by unfold maxLen; decide); unfold maxLen at this; omega
    refine ⟨some ⟨w.heap.size, 0, none⟩, C', ?_, ?_, .inr ⟨w.heap.size, rfl, Nat.le_refl _⟩, ?_⟩
    · rw [h1, hC']; rfl
    · subst h2
      refine own_of_cells (cur := _) hB (heap_alloc_new w.drew _) hll hge hle ?_ fun j u hu => ?_
      · show (([] ++ [Value.int .i64 v]).toArray ++ Builtin.zeroCells (Value.int .i64 0).cells (grownCap w (0 + 1) 0 3 - (0 + 1))).size = _
        rw [← hC', Array.size_append, size_zeroCells]
        show 1 + (C' - (0 + 1)) * 1 = C' * 1
        omega
      · have hj : j = 0 := by have := (List.getElem?_eq_some_iff.1 hu).1; rw [hll] at this; simp at this; exact this
        subst hj
        refine cell_of (heap_alloc_new w.drew _) 0 u ?_
        rw [Array.getElem?_append_left (by simp)]
        exact hu
    · subst h2
      exact grown_alloc (grown_drewS (World.grownBy.refl w _)) _
  · have hbl : b < w.heap.size := block_lt hb
    have hbv : vb ≠ b := fun e => hne (by rw [e]; rfl)
    have hsp : ∀ j, j < c → (w.cell? ⟨b, 0 + j, none⟩).isSome = true := fun j hj => by
      rw [Nat.zero_add, cell_of hb j (cur[j]'(by omega)) (Array.getElem?_eq_getElem _)]; rfl
    have hfz : ∀ o, w.frozen? ⟨b, o, none⟩ = false := fun o => frozen_of_row _ _ _ _ _ hb
    by_cases hroom : xs.length + 1 ≤ c
    · by_cases hkn : k < xs.length
      · -- room, ahead of the end
        have h := Any2.slices_Insert_int_shift inLays b 0 xs.length c k vb 0 1 1 (izs xs) [.int .i64 v] w hkn (by decide) hroom hc63 hbv hcl rfl hcs (fun j hj => hsp j (by omega)) (fun j _ => hfz _) hvs h1c h1v 3 3 1 cur.size (shape_of hv) (shape_of hb) (by omega) (frozen_of_row _ _ _ _ _ hv) (frozen_of_row _ _ _ _ _ hv)
        refine h.mono fun e w' ⟨h1, h2⟩ => ⟨some ⟨b, 0, none⟩, c, h1, ?_, .inl rfl, ?_⟩
        · obtain ⟨c1, hb1, hs1⟩ := setCells_blk b 3 ((izs xs).drop k) (0 + (k + 1)) w.drew cur hb
          obtain ⟨c2, hb2, hs2⟩ := setCells_blk b 3 [.int .i64 v] (0 + k) _ c1 hb1
          subst h2
          refine own_of_cells hBb hb2 hll hroom hc63 (by rw [hs2, hs1, hsz]) fun j u hu => ?_
          have hdl : ((izs xs).drop k).length = xs.length - k := by rw [List.length_drop, izs_length]
          rcases insL_get hk hu with ⟨hj, hu⟩ | ⟨rfl, rfl⟩ | ⟨hj, hu⟩
          · rw [World.cell?_setCells_out _ _ _ _ _ (fun _ _ => .inl (by show j < 0 + k; omega)), World.cell?_setCells_out _ _ _ _ _ (fun _ _ => .inl (by show j < 0 + (k + 1); omega))]
            have := hcs j u hu
            rw [Nat.zero_add] at this
            exact this
          · have hin := World.cell?_setCells_in b [.int .i64 v] (0 + j) (w.drew.setCells b (0 + (j + 1)) ((izs xs).drop j)) (fun i hi => by
              have hi0 : i = 0 := by simpa using hi
              subst hi0
              exact World.isSome_setCells b _ _ _ _ (hsp j (by omega))) 0 (by simp)
            rw [show 0 + j + 0 = j by omega] at hin
            exact hin
          · have hj2 : j - (k + 1) < xs.length - k := by have := (List.getElem?_eq_some_iff.1 hu).1; omega
            rw [World.cell?_setCells_out _ _ _ _ _ (fun _ _ => .inr (by show 0 + k + 1 ≤ j; omega))]
            have hin := World.cell?_setCells_in b ((izs xs).drop k) (0 + (k + 1)) w.drew (fun i hi => by
              have := hsp (k + 1 + i) (by omega)
              rw [← Nat.add_assoc] at this
              exact this) (j - (k + 1)) (by omega)
            rw [show 0 + (k + 1) + (j - (k + 1)) = j by omega] at hin
            rw [hin, ← hu, List.getElem?_eq_getElem]
        · subst h2
          exact grown_step (grown_step (grown_drewS (World.grownBy.refl w (some b))) (.inl rfl) (setCells_grown b _ _ _)) (.inl rfl) (setCells_grown b _ _ _)
      · -- room, at the end
        have hke : k = xs.length := by omega
        subst hke
        have h := Any2.slices_Insert_int_end_room inLays b 0 xs.length c vb 0 1 1 [.int .i64 v] w (by decide) hroom hc63 rfl (fun j hj => by have := hsp (xs.length + j) (by omega); rw [← Nat.add_assoc] at this; exact this) (fun j _ => hfz _) hvs h1v
        refine h.mono fun e w' ⟨h1, h2⟩ => ⟨some ⟨b, 0, none⟩, c, h1, ?_, .inl rfl, ?_⟩
        · obtain ⟨c1, hb1, hs1⟩ := setCells_blk b 3 [.int .i64 v] (0 + xs.length) w cur hb
          subst h2
          refine own_of_cells hBb hb1 hll hroom hc63 (by rw [hs1, hsz]) fun j u hu => ?_
          rcases insL_get hk hu with ⟨hj, hu⟩ | ⟨rfl, rfl⟩ | ⟨hj, hu⟩
          · rw [World.cell?_setCells_out _ _ _ _ _ (fun _ _ => .inl (by show j < 0 + xs.length; omega))]
            have := hcs j u hu
            rw [Nat.zero_add] at this
            exact this
          · have hin := World.cell?_setCells_in b [.int .i64 v] (0 + xs.length) w (fun i hi => by
              have hi0 : i = 0 := by simpa using hi
              subst hi0
              exact hsp xs.length (by omega)) 0 (by simp)
            rw [show 0 + xs.length + 0 = xs.length by omega] at hin
            exact hin
          · have := (List.getElem?_eq_some_iff.1 hu).1
            rw [List.length_drop, izs_length] at this
            omega
        · subst h2
          exact setCells_grown b _ _ _
    · by_cases hkn : k < xs.length
      · -- no room, ahead of the end
        have h := Any2.slices_Insert_int_grow inLays b 0 xs.length c k vb 0 1 1 (izs xs) [.int .i64 v] w hkn (by decide) hnc (by omega) (by omega) hcl rfl hcs hvs h1c h1v
        refine h.mono fun e w' ⟨h1, h2⟩ => ?_
        obtain ⟨C', hC'⟩ : ∃ C', C' = grownCap w (xs.length + 1) c 3 := ⟨_, rfl⟩
        have hge : xs.length + 1 ≤ C' := by rw [hC']; exact grownCap_ge _ _ _ _
        have hle : C' ≤ 9223372036854775807 := by rw [hC']; have := grownCap_le_maxLen w (xs.length + 1) c 3 (by unfold maxLen; omega); unfold maxLen at this; omega
        obtain ⟨cur0, hcur0⟩ : ∃ c0, c0 = ((izs xs).take k).toArray ++ Builtin.zeroCells (Value.int .i64 0).cells (xs.length + 1 - k) ++ Builtin.zeroCells (Value.int .i64 0).cells (C' - (xs.length + 1)) := ⟨_, rfl⟩
        have htk : ((izs xs).take k).toArray.size = k := by rw [List.size_toArray, List.length_take, izs_length]; omega
        have hs0 : cur0.size = C' * 1 := by
          rw [hcur0, Array.size_append, Array.size_append, htk, size_zeroCells, size_zeroCells]
          show k + (xs.length + 1 - k) * 1 + (C' - (xs.length + 1)) * 1 = C' * 1
          omega
        have h2' : w' = (((w.alloc (.cells cur0 3)).drew.setCells w.heap.size k [.int .i64 v]).drew).setCells w.heap.size (k + 1) ((izs xs).drop k) := by rw [hcur0, hC']; exact h2
        clear h2
        have hb0 : (w.alloc (.cells cur0 3)).drew.heap[w.heap.size]? = some (.cells cur0 3 (0, 0)) := heap_alloc_new w _
        obtain ⟨c1, hb1, hs1⟩ := setCells_blk w.heap.size 3 [.int .i64 v] k _ cur0 hb0
        obtain ⟨c2, hb2, hs2⟩ := setCells_blk w.heap.size 3 ((izs xs).drop k) (k + 1) (((w.alloc (.cells cur0 3)).drew.setCells w.heap.size k [.int .i64 v]).drew) c1 hb1
        have hsp0 : ∀ j, j < C' → ((w.alloc (.cells cur0 3)).drew.cell? ⟨w.heap.size, j, none⟩).isSome = true := fun j hj => by
          rw [cell_of hb0 j (cur0[j]'(by omega)) (Array.getElem?_eq_getElem _)]; rfl
        have hdl : ((izs xs).drop k).length = xs.length - k := by rw [List.length_drop, izs_length]
        refine ⟨some ⟨w.heap.size, 0, none⟩, C', by rw [h1, hC']; rfl, ?_, .inr ⟨w.heap.size, rfl, Nat.le_refl _⟩, ?_⟩
        · subst h2'
          refine own_of_cells hB hb2 hll hge hle (by rw [hs2, hs1, hs0]) fun j u hu => ?_
          rcases insL_get hk hu with ⟨hj, hu⟩ | ⟨rfl, rfl⟩ | ⟨hj, hu⟩
          · rw [World.cell?_setCells_out _ _ _ _ _ (fun _ _ => .inl (by show j < k + 1; omega))]
            show (((w.alloc (.cells cur0 3)).drew.setCells w.heap.size k [.int .i64 v])).cell? ⟨w.heap.size, j, none⟩ = some u
            rw [World.cell?_setCells_out _ _ _ _ _ (fun _ _ => .inl (by show j < k; omega))]
            refine cell_of hb0 j u ?_
            rw [hcur0, Array.getElem?_append_left (by rw [Array.size_append, htk]; omega), Array.getElem?_append_left (by rw [htk]; omega), List.getElem?_toArray, List.getElem?_take, if_pos hj]
            exact hu
          · rw [World.cell?_setCells_out _ _ _ _ _ (fun _ _ => .inl (by show j < j + 1; omega))]
            have hin := World.cell?_setCells_in w.heap.size [.int .i64 v] j (w.alloc (.cells cur0 3)).drew (fun i hi => by
              have hi0 : i = 0 := by simpa using hi
              subst hi0
              exact hsp0 j (by omega)) 0 (by simp)
            exact hin
          · have hin := World.cell?_setCells_in w.heap.size ((izs xs).drop k) (k + 1) (((w.alloc (.cells cur0 3)).drew.setCells w.heap.size k [.int .i64 v]).drew) (fun i hi => World.isSome_setCells w.heap.size _ _ _ _ (hsp0 (k + 1 + i) (by omega))) (j - (k + 1)) (by have := (List.getElem?_eq_some_iff.1 hu).1; omega)
            rw [show k + 1 + (j - (k + 1)) = j by omega] at hin
            obtain ⟨hj3, he3⟩ := List.getElem?_eq_some_iff.1 hu
            rw [hin, he3]
        · subst h2'
          have hg0 : w.grownBy (w.alloc (.cells cur0 3)).drew none := grown_drewS (grown_alloc (World.grownBy.refl w _) _)
          have hg1 : w.grownBy ((w.alloc (.cells cur0 3)).drew.setCells w.heap.size k [.int .i64 v]).drew none := grown_drewS (grown_fresh hg0 (setCells_grown w.heap.size _ _ _) (fun g hg => by cases hg; exact Nat.le_refl _))
          exact grown_noneTo (grown_fresh hg1 (setCells_grown w.heap.size _ _ _) (fun g hg => by cases hg; exact Nat.le_refl _))
      · -- no room, at the end
        have hke : k = xs.length := by omega
        subst hke
        have h := Any2.slices_Insert_int_end_grow inLays (some ⟨b, 0, none⟩) xs.length c vb 0 1 1 (izs xs) [.int .i64 v] w (by decide) hnc (by omega) (by omega) hcl rfl (fun e => by cases e) (fun a ha j u hu => by
          cases ha
          rw [add_none]
          exact hcs j u hu) hvs h1v
        refine h.mono fun e w' ⟨h1, h2⟩ => ?_
        obtain ⟨C', hC'⟩ : ∃ C', C' = grownCap w (xs.length + 1) c 3 := ⟨_, rfl⟩
        have hge : xs.length + 1 ≤ C' := by rw [hC']; exact grownCap_ge _ _ _ _
        have hle : C' ≤ 9223372036854775807 := by rw [hC']; have := grownCap_le_maxLen w (xs.length + 1) c 3 (by unfold maxLen; omega); unfold maxLen at this; omega
        obtain ⟨cur0, hcur0⟩ : ∃ c0, c0 = (izs xs ++ [Value.int .i64 v]).toArray ++ Builtin.zeroCells (Value.int .i64 0).cells (C' - (xs.length + 1)) := ⟨_, rfl⟩
        have hl1 : (izs xs ++ [Value.int .i64 v]).toArray.size = xs.length + 1 := by rw [List.size_toArray, List.length_append, izs_length]; rfl
        have h2' : w' = w.drew.alloc (.cells cur0 3) := by rw [hcur0, hC']; exact h2
        clear h2
        refine ⟨some ⟨w.heap.size, 0, none⟩, C', by rw [h1, hC']; rfl, ?_, .inr ⟨w.heap.size, rfl, Nat.le_refl _⟩, ?_⟩
        · subst h2'
          refine own_of_cells hB (heap_alloc_new w.drew _) hll hge hle ?_ fun j u hu => ?_
          · rw [hcur0, Array.size_append, hl1, size_zeroCells]
            show xs.length + 1 + (C' - (xs.length + 1)) * 1 = C' * 1
            omega
          · refine cell_of (heap_alloc_new w.drew _) j u ?_
            have hj : j < xs.length + 1 := by have := (List.getElem?_eq_some_iff.1 hu).1; rw [hll] at this; exact this
            rw [hcur0, Array.getElem?_append_left (by rw [hl1]; exact hj), List.getElem?_toArray]
            rw [List.take_length, List.drop_length] at hu
            unfold izs at hu ⊢
            rw [List.map_append] at hu
            exact hu
        · subst h2'
          exact grown_alloc (grown_drewS (World.grownBy.refl w _)) _
end Go.Proofs.Ythooibljnfnnhaa
end
section
namespace Go.Proofs.Ythooibljnfnnhaa
open Go Go.RowKit
set_option linter.unusedVariables false
set_option linter.unusedSimpArgs false
theorem inS_ends {xs : List Int} {q m : Nat} (hs : xs.Pairwise (· < ·)) (h0 : 0 < xs.length) :
    inS xs q m = (decide (((q * 2 ^ m : Nat) : Int) ≤ xs[0]) && decide (xs[xs.length - 1] ≤ (((q + 1) * 2 ^ m - 1 : Nat) : Int))) := by
  rw [Bool.eq_iff_iff, Bool.and_eq_true, decide_eq_true_iff, decide_eq_true_iff]
  unfold inS
  rw [List.all_eq_true]
  constructor
  · intro h
    have h1 := h _ (List.getElem_mem h0)
    have h2 := h _ (List.getElem_mem (show xs.length - 1 < xs.length by omega))
    rw [Bool.and_eq_true, decide_eq_true_iff, decide_eq_true_iff] at h1 h2
    exact ⟨h1.1, h2.2⟩
  · rintro ⟨h1, h2⟩ v hv
    obtain ⟨j, hj, rfl⟩ := List.getElem_of_mem hv
    rw [List.pairwise_iff_getElem] at hs
    rw [Bool.and_eq_true, decide_eq_true_iff, decide_eq_true_iff]
    constructor
    · rcases Nat.eq_zero_or_pos j with rfl | h
      · exact h1
      · have := hs 0 j h0 hj h; omega
    · rcases Nat.lt_or_ge j (xs.length - 1) with h | h
      · have := hs j (xs.length - 1) hj (by omega) h; omega
      · obtain rfl : j = xs.length - 1 := by omega
        exact h2
set_option maxHeartbeats 1000000 in
theorem areBeneath_e (A : Option Addr) (xs : List Int) (c q l : Nat) (w : World) (hA : Lie w w.heap.size A (izs xs)) (hs : xs.Pairwise (· < ·)) (hl : xs.length ≤ 1000000) (h16 : l ≤ 16) (hq : q < 2 ^ (16 - l)) :
    Calls Try.prog 70 #[.slice A xs.length c, .int .i64 (nd q l : Int)] w (RetB w (inS xs q l)) := by
  have HSp := hid (Span_e q l w h16 hq)
  have HA := hid hA
  obtain ⟨x, hx⟩ : ∃ x, x = nd q l := ⟨_, rfl⟩
  rw [← hx] at HSp ⊢
  by_cases h0 : 0 < xs.length
  · have HI := hid (inS_ends (q := q) (m := l) hs h0)
    obtain ⟨F, hF⟩ : ∃ F, F = ((q * 2 ^ l : Nat) : Int) := ⟨_, rfl⟩
    obtain ⟨G, hG⟩ : ∃ F, F = (((q + 1) * 2 ^ l - 1 : Nat) : Int) := ⟨_, rfl⟩
    rw [← hF, ← hG] at HSp HI
    obtain ⟨m, hm⟩ : ∃ m, m = xs.length - 1 := ⟨_, rfl⟩
    have hne : ((xs.length : Int) == 0) = false := by rw [beq_eq_false_iff_ne]; omega
    have hw1 : wrap64 ((xs.length : Int) - 1) = (m : Int) := (wrap64_in (by omega) (by omega)).trans (by omega)
    have hpos : (0 : Int) < (xs.length : Int) := by omega
    have hmi : (0 : Int) ≤ (m : Int) := by omega
    have hml : (m : Int) < (xs.length : Int) := by omega
    have HX0 : Hid (∀ W, Below w.heap.size w W → ∃ b o, A = some ⟨b, o, none⟩ ∧ W.cell? ⟨b, o + 0, none⟩ = some (.int .i64 xs[0]) ∧ W.cell? ⟨b, o + m, none⟩ = some (.int .i64 (xs[xs.length - 1]'(by omega)))) := hid fun W hb => by
      have h := HA.out.below hb
      obtain ⟨b, o, rfl, -, h1⟩ := h.numZ h0
      obtain ⟨b2, o2, he, -, h2⟩ := h.numZ (show xs.length - 1 < xs.length by omega)
      have hoff : o2 + (xs.length - 1) = o2 + m := by rw [hm]
      rw [hoff] at h2
      simp only [Option.some.injEq, Addr.mk.injEq] at he
      obtain ⟨rfl, rfl, -⟩ := he
      exact ⟨b, o, rfl, h1, h2⟩
    obtain ⟨u, hu⟩ : ∃ u, u = xs[0] := ⟨_, rfl⟩
    obtain ⟨v, hv⟩ : ∃ u, u = xs[xs.length - 1] := ⟨_, rfl⟩
    rw [← hu, ← hv] at HX0 HI
    obtain ⟨r, hr⟩ : ∃ r, r = inS xs q l := ⟨_, rfl⟩
    rw [← hr] at HI ⊢
    obtain ⟨n, hn⟩ : ∃ n, n = xs.length := ⟨_, rfl⟩
    rw [← hn] at hne hw1 hpos hml ⊢
    clear hx hF hG hm hu hv hr hs hl h16 hq hA HA h0 hn
    go_enter Try.func70, Try.ntmps70
    go_wp2_with fail
    refine HSp.out.mono ?_
    rintro e w1 ⟨rfl, hb⟩
    have HB := hid hb
    obtain ⟨b, o, rfl, c0, cm⟩ := HX0.out w1 hb
    rw [Nat.add_zero] at c0
    clear hb HSp HX0
    by_cases h1 : F ≤ u
    · by_cases h2 : v ≤ G
      · have HR : Hid (r = true) := hid (by rw [HI.out, decide_eq_true h1, decide_eq_true h2]; rfl)
        clear HI
        go_wp2
        go_ret
        exact ⟨by rw [HR.out]; rfl, HB.out⟩
      · have HR : Hid (r = false) := hid (by rw [HI.out, decide_eq_true h1, decide_eq_false h2]; rfl)
        have h2' : decide (v ≤ G) = false := decide_eq_false h2
        clear HI h2
        go_wp2
        go_ret
        exact ⟨by rw [HR.out]; first | rfl | exact congrArg (fun b => Ending.returned (.bool b)) h2', HB.out⟩
    · have HR : Hid (r = false) := hid (by rw [HI.out, decide_eq_false h1]; rfl)
      have h1' : u < F := by omega
      clear HI
      go_wp2
      go_ret
      exact ⟨by rw [HR.out]; rfl, HB.out⟩
  · have hz : xs = [] := List.eq_nil_of_length_eq_zero (by omega)
    subst hz
    have HR : Hid (inS [] q l = true) := hid rfl
    obtain ⟨F, hF⟩ : ∃ F, F = ((q * 2 ^ l : Nat) : Int) := ⟨_, rfl⟩
    obtain ⟨G, hG⟩ : ∃ F, F = (((q + 1) * 2 ^ l - 1 : Nat) : Int) := ⟨_, rfl⟩
    rw [← hF, ← hG] at HSp
    clear hx hF hG HA hA hs hl h0
    rw [List.length_nil]
    go_enter Try.func70, Try.ntmps70
    go_wp2_with fail
    refine HSp.out.mono ?_
    rintro e w1 ⟨rfl, hb⟩
    have HB := hid hb
    clear hb HSp
    go_wp2
    go_ret
    exact ⟨by rw [HR.out]; rfl, HB.out⟩
set_option maxHeartbeats 1000000 in
theorem hasAll_e (A : Option Addr) (xs : List Int) (c : Nat) (A2 : Option Addr) (ys : List Int) (c2 : Nat) (w : World) (hA : Lie w w.heap.size A (izs xs)) (hA2 : Lie w w.heap.size A2 (izs ys)) (hs : xs.Pairwise (· < ·)) (hl : xs.length ≤ 1000000) (hl2 : ys.length ≤ 1000000) :
    Calls Try.prog 71 #[.slice A xs.length c, .slice A2 ys.length c2] w (RetB w (hasA xs ys)) := by
  have HBS : Hid (∀ W x, Below w.heap.size w W → Calls Try.prog 73 #[.slice A xs.length c, .int .i64 x] W fun e w' => e = .returned (.tuple #[.int .i64 (cutL xs x : Int), .bool (decide (x ∈ xs))]) ∧ Below W.heap.size W w') := hid fun W x hb => BS_e A xs c x W w.heap.size (hA.below hb) hs hl
  have HA2 := hid hA2
  have HC : Hid (∀ x, cutL xs x ≤ 1000000) := hid fun x => Nat.le_trans (cutL_le _ _) hl
  clear hA hA2 hs hl
  go_enter Try.func71, Try.ntmps71
  go_wp2
  go_loopg [11] ys.length (fun r i wr => ∃ k : Nat, k + r = ys.length ∧ i = .int .i64 (k : Int) ∧ (∀ (j : Nat) (v : Int), j < k → ys[j]? = some v → v ∈ xs) ∧ Below w.heap.size w wr)
  case atStart => exact ⟨0, by omega, rfl, fun j v hj => by omega, Below.refl _ _⟩
  case round =>
    obtain ⟨k, hk, rfl, hno, hb⟩ := hrel
    have HK := hid hk; have HNO := hid hno; have HB := hid hb
    have hw1 : wrap64 ((k : Int) + 1) = (k : Int) + 1 := wrap64_in (by omega) (by omega)
    clear hk hno hb hl2
    by_cases hlt : k < ys.length
    · obtain ⟨b, o, rfl, hbl, hc⟩ := (HA2.out.below HB.out).numZ hlt
      have hx : (k : Int) < (ys.length : Int) := by omega
      have h0 : (0 : Int) ≤ (k : Int) := by omega
      have HLT := hid hlt
      have HN : Hid (ys[k]? = some (ys[k]'hlt)) := hid (List.getElem?_eq_getElem hlt)
      obtain ⟨u, hu⟩ : ∃ u, u = ys[k]'hlt := ⟨_, rfl⟩
      rw [← hu] at hc HN
      have HBu := hid (HBS.out wr u HB.out)
      have HCu := hid (HC.out u)
      obtain ⟨ct, hct⟩ : ∃ n, n = cutL xs u := ⟨_, rfl⟩
      obtain ⟨q, hq⟩ : ∃ q, q = decide (u ∈ xs) := ⟨_, rfl⟩
      rw [← hct, ← hq] at HBu
      have HQ := hid hq
      clear hu hct hq hlt hbl
      go_wp2_with fail
      refine HBu.out.mono ?_
      rintro e w2 ⟨rfl, hb⟩
      have HB2 := hid (HB.out.trans (hb.mono HB.out.size))
      clear hb HBu hc HB
      cases q with
      | false =>
        have HR : Hid (hasA xs ys = false) := hid (by
          rw [Bool.eq_false_iff]
          intro h
          have h2 := hasA_iff.1 h u (List.mem_of_getElem? HN.out)
          exact absurd h2 (of_decide_eq_false HQ.out.symm))
        go_wp2
        go_ret
        exact ⟨by rw [HR.out]; rfl, HB2.out⟩
      | true =>
        have HU : Hid (u ∈ xs) := hid (of_decide_eq_true HQ.out.symm)
        go_wp2
        have hk := HK.out; have hlt := HLT.out
        go_roundg (ys.length - (k + 1))
        case measure => clear hw1; omega
        case rel => exact ⟨k + 1, by clear hw1; omega, by first | rfl | (rw [hw1]; rfl), fun j v hj hv => by
          rcases Nat.lt_or_ge j k with h1 | h1
          · exact HNO.out j v h1 hv
          · obtain rfl : j = k := by clear hw1; omega
            rw [HN.out] at hv
            rw [← Option.some.inj hv]; exact HU.out, HB2.out⟩
    · have hge : ¬ (k : Int) < (ys.length : Int) := by omega
      have HR : Hid (hasA xs ys = true) := hid (hasA_iff.2 fun v hv => by
        obtain ⟨j, hj, rfl⟩ := List.getElem_of_mem hv
        exact HNO.out j _ (by have := HK.out; omega) (List.getElem?_eq_getElem hj))
      clear hlt
      go_wp2
      go_ret
      exact ⟨by rw [HR.out]; rfl, HB.out⟩
end Go.Proofs.Ythooibljnfnnhaa
end
section
namespace Go.Proofs.Ythooibljnfnnhaa
open Go Go.RowKit
set_option linter.unusedVariables false
set_option linter.unusedSimpArgs false
theorem TrIn.at2 {w : World} {B : Nat} {A : Option Addr} {t : List Nd} {ad : List NA} (h : TrIn w B A t ad) {j : Nat} (hj : j < t.length) :
    ∃ b o n a, A = some ⟨b, o, none⟩ ∧ b < B ∧ t[j]? = some n ∧ ad[j]? = some a ∧ n = nAt t j ∧ NdIn w B n a ∧ w.rangeAt b (o + j * 10) (ndL n a) := by
  obtain ⟨n, hn⟩ : ∃ n, t[j]? = some n := ⟨_, List.getElem?_eq_getElem hj⟩
  obtain ⟨a, ha⟩ : ∃ a, ad[j]? = some a := ⟨_, List.getElem?_eq_getElem (by rw [h.len]; exact hj)⟩
  have hne : trL t ad ≠ [] := fun e => by
    have := trL_length t ad h.len
    rw [e, List.length_nil] at this
    omega
  obtain ⟨b, o, hA, hb, hc⟩ := h.row hne
  refine ⟨b, o, n, a, hA, hb, hn, ha, (nd_getE hn).symm, h.nodes j n a hn ha, fun c u hu => ?_⟩
  rw [Nat.add_assoc]
  exact hc _ _ (trL_get hn ha hu)
/-- The rest of a slice from a place on. -/
def restA (A : Option Addr) (k c : Nat) : Option Addr := if c = k then A else A.map (·.add k)
theorem lie_rest {w : World} {B c k : Nat} {A : Option Addr} {xs : List Int} (h : Lie w B A (izs xs)) (hk : k ≤ xs.length) (hc : xs.length ≤ c) : Lie w B (restA A k c) (izs (xs.drop k)) := by
  intro hn
  have hlt : k < xs.length := by
    rcases Nat.lt_or_ge k xs.length with h1 | h1
    · exact h1
    · exact absurd (by rw [List.drop_eq_nil_of_le h1]; rfl) hn
  obtain ⟨b, o, rfl, hb, -⟩ := h.numZ hlt
  have e : restA (some ⟨b, o, none⟩) k c = some ⟨b, o + k, none⟩ := by
    unfold restA
    rw [if_neg (by omega)]
    show some ((⟨b, o, none⟩ : Addr).add k) = _
    rw [add_none]
  refine ⟨b, o + k, e, hb, fun j u hu => ?_⟩
  unfold izs at hu
  rw [List.getElem?_map, List.getElem?_drop] at hu
  have hj : k + j < xs.length := by
    rcases Nat.lt_or_ge (k + j) xs.length with h1 | h1
    · exact h1
    · rw [List.getElem?_eq_none h1] at hu; cases hu
  obtain ⟨b2, o2, he, -, hc2⟩ := h.numZ hj
  simp only [Option.some.injEq, Addr.mk.injEq] at he
  obtain ⟨rfl, rfl, -⟩ := he
  rw [List.getElem?_eq_getElem hj] at hu
  injection hu with hu
  rw [← hu, Nat.add_assoc]
  exact hc2
theorem izs_take (xs : List Int) (k : Nat) : izs (xs.take k) = (izs xs).take k := by unfold izs; rw [List.map_take]
set_option maxRecDepth 100000 in
set_option maxHeartbeats 8000000 in
theorem isLateRight_e (A : Option Addr) (t : List Nd) (ad : List NA) (c K : Nat) (hz : Sz t K) (har : AreR t) (l : Nat) : ∀ (q : Nat) (ab : List Int) (A2 : Option Addr) (c2 : Nat) (w : World), l ≤ K → q < 2 ^ (K - l) → TrQ w w.heap.size A c t ad →
    Lie w w.heap.size A2 (izs ab) → ab.Pairwise (· < ·) → ab.length ≤ 65536 → ab.length ≤ c2 → c2 ≤ 9223372036854775807 →
    Calls Try.prog 42 #[.slice A t.length c, .int .i64 (nd q l : Int), .slice A2 ab.length c2] w (RetB w (lateR t l q ab)) := by
  induction l with
  | zero =>
    intro q ab A2 c2 w hl hq hA hA2 hs hab hac hc2
    have HL := hid (isLeafs_0 q w)
    have hlt := sz_lt hz hl hq
    obtain ⟨b, o, n, a, rfl, hbl, hnn, hnt, -, hr⟩ := hA.tr.at_ hlt
    have hkc := kind_at hr
    have HM : Hid (lateR t 0 q ab = (decide (ab = []) || decide (n.k = 1))) := hid (by rw [lateR, ← hnt])
    obtain ⟨x, hx⟩ : ∃ x, x = nd q 0 := ⟨_, rfl⟩
    rw [← hx] at HL hlt hkc ⊢
    have hxi : (x : Int) < (t.length : Int) := by omega
    have h0 : (0 : Int) ≤ (x : Int) := by omega
    have hki : ((n.k : Int) == 1) = decide (n.k = 1) := by rw [Bool.eq_iff_iff, beq_iff_eq, decide_eq_true_iff]; omega
    obtain ⟨p, hp⟩ : ∃ p, p = decide (n.k = 1) := ⟨_, rfl⟩
    rw [← hp] at HM hki
    have HE : Hid (ab = [] ↔ ab.length = 0) := hid List.length_eq_zero_iff.symm
    obtain ⟨m, hm⟩ : ∃ m, m = ab.length := ⟨_, rfl⟩
    rw [← hm] at HE ⊢
    obtain ⟨r, hr2⟩ : ∃ r, r = lateR t 0 q ab := ⟨_, rfl⟩
    rw [← hr2] at HM ⊢
    clear hnn hnt hr hx hp hlt hA hz hl hq hA2 hs hab hac hc2 hm hr2
    by_cases hm0 : m = 0
    · have HR : Hid (r = true) := hid (by rw [HM.out, decide_eq_true (HE.out.2 hm0)]; rfl)
      subst hm0
      clear HM HE
      go_enter Try.func42, Try.ntmps42
      go_wp2_with fail
      refine HL.out.mono ?_
      rintro e w1 ⟨rfl, rfl⟩
      clear HL
      go_wp2
      go_ret
      exact ⟨by rw [HR.out]; rfl, Below.refl _ _⟩
    · have HR : Hid (r = p) := hid (by rw [HM.out, decide_eq_false (fun h => hm0 (HE.out.1 h))]; rfl)
      have hmi : ((m : Int) == 0) = false := by rw [beq_eq_false_iff_ne]; omega
      clear HM HE hm0
      go_enter Try.func42, Try.ntmps42
      go_wp2_with fail
      refine HL.out.mono ?_
      rintro e w1 ⟨rfl, rfl⟩
      clear HL
      go_wp2
      go_ret
      exact ⟨by rw [HR.out]; first | rfl | exact congrArg (fun b => Ending.returned (.bool b)) hki, Below.refl _ _⟩
  | succ l ih =>
    intro q ab A2 c2 w hl hq hA hA2 hs hab hac hc2
    obtain ⟨q1, q2⟩ := half hl hq
    have hq16 := q16 hl hz.2 hq
    have hl16 : l + 1 ≤ 16 := by have := hz.2; omega
    have HIS := hid fun W => isLeafs_s q l W
    have HLe : Hid (∀ W, Below w.heap.size w W → Calls Try.prog 68 #[.int .i64 (nd q (l + 1) : Int)] W (RetI W (nd (2 * q) l : Int))) := hid fun W _ => Left_e q l W hl16 hq16
    have HRi : Hid (∀ W, Below w.heap.size w W → Calls Try.prog 69 #[.int .i64 (nd q (l + 1) : Int)] W (RetI W (nd (2 * q + 1) l : Int))) := hid fun W _ => Right_e q l W hl16 hq16
    have hps : 0 < (2 * q + 1) * 2 ^ l := Nat.mul_pos (by omega) (Nat.two_pow_pos _)
    have hbig : (2 * q + 1) * 2 ^ l ≤ 131072 := by
      have h1 : q + 1 ≤ 2 ^ (16 - (l + 1)) := hq16
      have h2 : (q + 1) * 2 ^ (l + 1) ≤ 2 ^ (16 - (l + 1)) * 2 ^ (l + 1) := Nat.mul_le_mul_right _ h1
      rw [← Nat.pow_add, show 16 - (l + 1) + (l + 1) = 16 by omega, pow1] at h2
      have h3 : (2 * q + 1) * 2 ^ l ≤ ((q + 1) * 2) * 2 ^ l := Nat.mul_le_mul_right _ (by omega)
      rw [Nat.mul_assoc] at h3
      have h4 : (2 : Nat) ^ 16 = 65536 := rfl
      omega
    have HSp : Hid (∀ W, Calls Try.prog 72 #[.int .i64 (nd (2 * q) l : Int)] W (RetII W ((2 * q * 2 ^ l : Nat) : Int) (((2 * q + 1) * 2 ^ l - 1 : Nat) : Int))) := hid fun W => Span_e (2 * q) l W (by omega) (q16 (by omega) hz.2 q1)
    have hlt := sz_lt hz hl hq
    have HGO : Hid (∀ (late : List Int) (A2 : Option Addr) (c2 : Nat), Lie w w.heap.size A2 (izs late) → late.Pairwise (· < ·) → late.length ≤ 65536 → late.length ≤ c2 → c2 ≤ 9223372036854775807 →
        (∀ W, Below w.heap.size w W → Calls Try.prog 42 #[.slice A t.length c, .int .i64 (nd (2 * q) l : Int), .slice A2 (cutL late (midS q l)) c2] W (RetB W (lateR t l (2 * q) (late.take (cutL late (midS q l)))))) ∧
        (∀ W, Below w.heap.size w W → Calls Try.prog 42 #[.slice A t.length c, .int .i64 (nd (2 * q + 1) l : Int), .slice (restA A2 (cutL late (midS q l)) c2) (late.length - cutL late (midS q l)) (c2 - cutL late (midS q l))] W (RetB W (lateR t l (2 * q + 1) (late.drop (cutL late (midS q l))))))) := hid fun late A2 c2 h1 h2 h3 h4 h5 => by
      have hcl := cutL_le late (midS q l)
      refine ⟨fun W hb => ?_, fun W hb => ?_⟩
      · have h := ih (2 * q) (late.take (cutL late (midS q l))) A2 c2 W (by omega) q1 (hA.up hb) (by rw [izs_take]; exact ((h1.below hb).more hb.size).take _) (h2.sublist (List.take_sublist _ _)) (by rw [List.length_take]; omega) (by rw [List.length_take]; omega) h5
        rw [List.length_take, Nat.min_eq_left hcl] at h
        exact h
      · have h := ih (2 * q + 1) (late.drop (cutL late (midS q l))) (restA A2 (cutL late (midS q l)) c2) (c2 - cutL late (midS q l)) W (by omega) q2 (hA.up hb) (lie_rest ((h1.below hb).more hb.size) hcl h4) (h2.sublist (List.drop_sublist _ _)) (by rw [List.length_drop]; omega) (by rw [List.length_drop]; omega) (by omega)
        rw [List.length_drop] at h
        exact h
    have HBS : Hid (∀ (late : List Int) (A2 : Option Addr) (c2 : Nat), Lie w w.heap.size A2 (izs late) → late.Pairwise (· < ·) → late.length ≤ 65536 → ∀ W, Below w.heap.size w W → Calls Try.prog 73 #[.slice A2 late.length c2, .int .i64 (midS q l)] W fun e w' => e = .returned (.tuple #[.int .i64 (cutL late (midS q l) : Int), .bool (decide (midS q l ∈ late))]) ∧ Below W.heap.size W w') := hid fun late A2 c2 h1 h2 h3 W hb => BS_e A2 late c2 (midS q l) W w.heap.size (h1.below hb) h2 (by omega)
    have HLR : Hid ((nAt t (nd q (l + 1))).k = 2 → lateR t (l + 1) q ab = ((inS (nAt t (nd q (l + 1))).u.late q (l + 1) && hasA (nAt t (nd q (l + 1))).u.late ab) && (lateR t l (2 * q) ((nAt t (nd q (l + 1))).u.late.take (cutL (nAt t (nd q (l + 1))).u.late (midS q l))) && lateR t l (2 * q + 1) ((nAt t (nd q (l + 1))).u.late.drop (cutL (nAt t (nd q (l + 1))).u.late (midS q l)))))) := hid fun hk => by rw [lateR, if_pos hk]
    have HLN : Hid ((nAt t (nd q (l + 1))).k ≠ 2 → lateR t (l + 1) q ab = (lateR t l (2 * q) (ab.take (cutL ab (midS q l))) && lateR t l (2 * q + 1) (ab.drop (cutL ab (midS q l))))) := hid fun hk => by rw [lateR, if_neg hk]
    obtain ⟨hrise, -⟩ := late_rise (fun x hx => (har x hx).1) hlt
    obtain ⟨b, o, n, a, rfl, hbl, hnn, hna, hnt, hni, hr⟩ := hA.tr.at2 hlt
    obtain ⟨lc1, lc2⟩ := hA.late _ n a hnn hna
    have hll : n.u.late.length ≤ 65536 := by
      have hrb := (har _ hlt).1
      rw [← hnt] at hrb
      by_cases h2 : n.k = 2
      · unfold rightB at hrb
        rw [if_neg (by omega), if_neg (by omega), if_pos h2, Bool.and_eq_true] at hrb
        exact rise_count (parB_len hrb.1).1
      · have := (late_rise (fun x hx => (har x hx).1) hlt).2
        rw [← hnt] at this
        rw [this h2]; simp
    rw [← hnt] at HLR HLN hrise
    have hlie := hni.2.2.2
    have HBE : Hid (∀ W, Below w.heap.size w W → Calls Try.prog 70 #[.slice a.p.a2 n.u.late.length a.p.c2, .int .i64 (nd q (l + 1) : Int)] W (RetB W (inS n.u.late q (l + 1)))) := hid fun W hb => areBeneath_e _ _ _ q (l + 1) W (lie_on hlie hb) hrise (by omega) hl16 hq16
    have HHA : Hid (∀ W, Below w.heap.size w W → Calls Try.prog 71 #[.slice a.p.a2 n.u.late.length a.p.c2, .slice A2 ab.length c2] W (RetB W (hasA n.u.late ab))) := hid fun W hb => hasAll_e _ _ _ _ _ _ W (lie_on hlie hb) (lie_on hA2 hb) hrise (by omega) (by omega)
    have hkc := kind_at hr
    have hlcell := late_at hr
    obtain ⟨x, hx⟩ : ∃ x, x = nd q (l + 1) := ⟨_, rfl⟩
    obtain ⟨y, hy⟩ : ∃ x, x = nd (2 * q) l := ⟨_, rfl⟩
    obtain ⟨z, hz'⟩ : ∃ x, x = nd (2 * q + 1) l := ⟨_, rfl⟩
    obtain ⟨G, hG⟩ : ∃ x, x = (2 * q + 1) * 2 ^ l - 1 := ⟨_, rfl⟩
    obtain ⟨F, hF⟩ : ∃ x, x = 2 * q * 2 ^ l := ⟨_, rfl⟩
    obtain ⟨M, hM⟩ : ∃ x, x = midS q l := ⟨_, rfl⟩
    have hwG : wrap64 ((G : Int) + 1) = M := by
      have hmid : midS q l = (((2 * q + 1) * 2 ^ l : Nat) : Int) := rfl
      rw [hM, hmid, wrap64_in (by omega) (by omega)]; omega
    rw [← hx] at HIS HLe HRi hlt hkc hlcell HBE ⊢
    rw [← hy] at HLe HGO HSp
    rw [← hz'] at HRi HGO
    rw [← hG, ← hF] at HSp
    rw [← hM] at HGO HBS HLR HLN
    obtain ⟨r, hr2⟩ : ∃ r, r = lateR t (l + 1) q ab := ⟨_, rfl⟩
    rw [← hr2] at HLR HLN ⊢
    have hxi : (x : Int) < (t.length : Int) := by omega
    have h0 : (0 : Int) ≤ (x : Int) := by omega
    have HB0 : Hid (Below w.heap.size w w) := hid (Below.refl _ _)
    by_cases hk2 : n.k = 2
    · have HLR2 := hid (HLR.out hk2)
      obtain ⟨hI1, hI2⟩ := HGO.out n.u.late a.p.a2 a.p.c2 hlie hrise hll lc1 lc2
      have HBL := hid (HBS.out n.u.late a.p.a2 a.p.c2 hlie hrise hll)
      have hki : ((n.k : Int) == 2) = true := by rw [beq_iff_eq]; omega
      have hcl := cutL_le n.u.late M
      obtain ⟨sb, hsb⟩ : ∃ b, b = inS n.u.late q (l + 1) := ⟨_, rfl⟩
      obtain ⟨sa, hsa⟩ : ∃ b, b = hasA n.u.late ab := ⟨_, rfl⟩
      rw [← hsb] at HBE HLR2
      rw [← hsa] at HHA HLR2
      obtain ⟨p1, hp1⟩ : ∃ b, b = lateR t l (2 * q) (n.u.late.take (cutL n.u.late M)) := ⟨_, rfl⟩
      obtain ⟨p2, hp2⟩ : ∃ b, b = lateR t l (2 * q + 1) (n.u.late.drop (cutL n.u.late M)) := ⟨_, rfl⟩
      obtain ⟨mq, hmq⟩ : ∃ b, b = decide (M ∈ n.u.late) := ⟨_, rfl⟩
      rw [← hp1] at hI1 HLR2
      rw [← hp2] at hI2 HLR2
      rw [← hmq] at HBL
      obtain ⟨ct, hct⟩ : ∃ k, k = cutL n.u.late M := ⟨_, rfl⟩
      rw [← hct] at hI1 hI2 HBL hcl
      obtain ⟨L, hL⟩ : ∃ k, k = n.u.late := ⟨_, rfl⟩
      obtain ⟨LA, hLA⟩ : ∃ k, k = a.p.a2 := ⟨_, rfl⟩
      obtain ⟨LC, hLC⟩ : ∃ k, k = a.p.c2 := ⟨_, rfl⟩
      rw [← hL] at hI2 HBL hcl lc1 hlcell HBE HHA
      rw [← hLA] at hI1 hI2 HBL hlcell HBE HHA
      rw [← hLC] at hI1 hI2 HBL lc1 hlcell HBE HHA
      have HI1 := hid hI1; have HI2 := hid hI2
      have hc0 : (0 : Int) ≤ (ct : Int) := by omega
      have hcc : (ct : Int) ≤ (LC : Int) := by omega
      have hcl : (ct : Int) ≤ (L.length : Int) := by omega
      clear hI1 hI2 hL hLA hLC hct hp1 hp2 hmq hsa hsb hk2 HLR HLN HGO HBS hbig hps hM hG hF hx hy hz' hr2 hlie hll hrise lc1 lc2 hni hr hna hnn hnt hbl hlt hA hA2 hs hab hac hc2 hq hl hq16 hl16 q1 q2 ih har hz
      go_enter Try.func42, Try.ntmps42
      go_wp2_with fail
      refine (HIS.out _).mono ?_
      rintro e w1 ⟨rfl, rfl⟩
      clear HIS
      go_wp2_with fail
      refine (HBE.out _ HB0.out).mono ?_
      rintro e w2 ⟨rfl, hb⟩
      have HB1 := hid hb
      clear hb HB0 HBE hkc hlcell
      cases sb with
      | false =>
        have HR : Hid (r = false) := hid (by rw [HLR2.out]; rfl)
        go_wp2
        go_ret
        exact ⟨by rw [HR.out]; rfl, HB1.out⟩
      | true =>
        go_wp2_with fail
        refine (HHA.out _ HB1.out).mono ?_
        rintro e w3 ⟨rfl, hb⟩
        have HB := hid (HB1.out.trans (hb.mono HB1.out.size))
        clear hb HB1 HHA
        cases sa with
        | false =>
          have HR : Hid (r = false) := hid (by rw [HLR2.out]; rfl)
          go_wp2
          go_ret
          exact ⟨by rw [HR.out]; rfl, HB.out⟩
        | true =>
          have HRR : Hid (r = (p1 && p2)) := hid (by rw [HLR2.out]; rfl)
          clear HLR2
          go_wp2_with fail
          refine (HLe.out _ HB.out).mono ?_
          rintro e w3 ⟨rfl, hb⟩
          have HB3 := hid (HB.out.trans (hb.mono HB.out.size))
          clear hb HB
          go_wp2_with fail
          refine (HSp.out _).mono ?_
          rintro e w4 ⟨rfl, hb⟩
          have HB4 := hid (HB3.out.trans (hb.mono HB3.out.size))
          clear hb HB3 HSp
          go_wp2_with fail
          refine (HBL.out _ HB4.out).mono ?_
          rintro e w6 ⟨rfl, hb⟩
          have HB := hid (HB4.out.trans (hb.mono HB4.out.size))
          clear hb HB4 HBL
          cases p1 with
          | false =>
            have HR : Hid (r = false) := hid (by rw [HRR.out]; rfl)
            clear HRR HI2 HRi
            go_upto_region 10 with fail
            refine wp_region_grA 16 (by kernel_rfl) (by decide) ?_
            refine wpGrA_take (i := 0) (.slice (some ⟨b, o, none⟩) t.length c) rfl (by kernel_rfl) (by kernel_rfl) (fun _ _ _ h => h) (yG_val _ (by rfl) (fun w' _ => by (go_simp; try rfl))) ?_
            (try simp only [Act.put, List.getElem_toArray, List.getElem_cons_succ, List.getElem_cons_zero, List.setIfInBounds_toArray, List.set_cons_zero, List.set_cons_succ])
            refine wpGrA_take (i := 1) (.int .i64 (x : Int)) rfl (by kernel_rfl) (by kernel_rfl) (fun _ _ _ h => h) (yG_val _ (by rfl) (fun w' _ => by (go_simp; try rfl))) ?_
            (try simp only [Act.put, List.getElem_toArray, List.getElem_cons_succ, List.getElem_cons_zero, List.setIfInBounds_toArray, List.set_cons_zero, List.set_cons_succ])
            refine wpGrA_take (i := 2) (.int .i64 (y : Int)) rfl (by kernel_rfl) (by kernel_rfl) (fun _ _ _ h => h) (yG_call (by rfl) (fun w' => by go_simp) (fun w' hb => HLe.out w' (HB.out.trans (hb.mono HB.out.size)))) ?_
            (try simp only [Act.put, List.getElem_toArray, List.getElem_cons_succ, List.getElem_cons_zero, List.setIfInBounds_toArray, List.set_cons_zero, List.set_cons_succ])
            refine wpGrA_take (i := 3) (.slice LA L.length LC) rfl (by kernel_rfl) (by kernel_rfl) (fun _ _ _ h => h) (yG_val _ (by rfl) (fun w' _ => by (go_simp; try rfl))) ?_
            (try simp only [Act.put, List.getElem_toArray, List.getElem_cons_succ, List.getElem_cons_zero, List.setIfInBounds_toArray, List.set_cons_zero, List.set_cons_succ])
            refine wpGrA_take (i := 4) (.int .i64 (ct : Int)) rfl (by kernel_rfl) (by kernel_rfl) (fun _ _ _ h => h) (yG_val _ (by rfl) (fun w' _ => by (go_simp; try rfl))) ?_
            (try simp only [Act.put, List.getElem_toArray, List.getElem_cons_succ, List.getElem_cons_zero, List.setIfInBounds_toArray, List.set_cons_zero, List.set_cons_succ])
            refine wpGrA_take (i := 5) (.slice LA ct LC) rfl (by kernel_rfl) (by kernel_rfl) (fun _ _ _ h => h) (yG_val _ (by rfl) (fun w' _ => by have h1 := hc0; have h2 := hcc; (go_simp; try rfl))) ?_
            (try simp only [Act.put, List.getElem_toArray, List.getElem_cons_succ, List.getElem_cons_zero, List.setIfInBounds_toArray, List.set_cons_zero, List.set_cons_succ])
            refine wpGrA_take (i := 6) (.bool false) rfl (by kernel_rfl) (by kernel_rfl) (fun _ _ _ h => h) (yG_call (by rfl) (fun w' => by go_simp) (fun w' hb => HI1.out w' (HB.out.trans (hb.mono HB.out.size)))) ?_
            (try simp only [Act.put, List.getElem_toArray, List.getElem_cons_succ, List.getElem_cons_zero, List.setIfInBounds_toArray, List.set_cons_zero, List.set_cons_succ])
            refine wpGrA_take (i := 7) (.bool false) rfl (by kernel_rfl) (by kernel_rfl) (fun _ _ _ h => h) (yG_val _ (by rfl) (fun w' _ => by (go_simp; try rfl))) ?_
            (try simp only [Act.put, List.getElem_toArray, List.getElem_cons_succ, List.getElem_cons_zero, List.setIfInBounds_toArray, List.set_cons_zero, List.set_cons_succ])
            refine wpGrA_take (i := 8) (undef) rfl (by kernel_rfl) (by kernel_rfl) (fun _ _ _ h => h) (yG_skip (by rfl)) ?_
            (try simp only [Act.put, List.getElem_toArray, List.getElem_cons_succ, List.getElem_cons_zero, List.setIfInBounds_toArray, List.set_cons_zero, List.set_cons_succ])
            refine wpGrA_take (i := 9) (undef) rfl (by kernel_rfl) (by kernel_rfl) (fun _ _ _ h => h) (yG_skip (by rfl)) ?_
            (try simp only [Act.put, List.getElem_toArray, List.getElem_cons_succ, List.getElem_cons_zero, List.setIfInBounds_toArray, List.set_cons_zero, List.set_cons_succ])
            refine wpGrA_take (i := 10) (undef) rfl (by kernel_rfl) (by kernel_rfl) (fun _ _ _ h => h) (yG_skip (by rfl)) ?_
            (try simp only [Act.put, List.getElem_toArray, List.getElem_cons_succ, List.getElem_cons_zero, List.setIfInBounds_toArray, List.set_cons_zero, List.set_cons_succ])
            refine wpGrA_take (i := 11) (undef) rfl (by kernel_rfl) (by kernel_rfl) (fun _ _ _ h => h) (yG_skip (by rfl)) ?_
            (try simp only [Act.put, List.getElem_toArray, List.getElem_cons_succ, List.getElem_cons_zero, List.setIfInBounds_toArray, List.set_cons_zero, List.set_cons_succ])
            refine wpGrA_take (i := 12) (undef) rfl (by kernel_rfl) (by kernel_rfl) (fun _ _ _ h => h) (yG_skip (by rfl)) ?_
            (try simp only [Act.put, List.getElem_toArray, List.getElem_cons_succ, List.getElem_cons_zero, List.setIfInBounds_toArray, List.set_cons_zero, List.set_cons_succ])
            refine wpGrA_take (i := 13) (undef) rfl (by kernel_rfl) (by kernel_rfl) (fun _ _ _ h => h) (yG_skip (by rfl)) ?_
            (try simp only [Act.put, List.getElem_toArray, List.getElem_cons_succ, List.getElem_cons_zero, List.setIfInBounds_toArray, List.set_cons_zero, List.set_cons_succ])
            refine wpGrA_take (i := 14) (undef) rfl (by kernel_rfl) (by kernel_rfl) (fun _ _ _ h => h) (yG_skip (by rfl)) ?_
            (try simp only [Act.put, List.getElem_toArray, List.getElem_cons_succ, List.getElem_cons_zero, List.setIfInBounds_toArray, List.set_cons_zero, List.set_cons_succ])
            refine wpGrA_take (i := 15) (.bool false) rfl (by kernel_rfl) (by kernel_rfl) (fun _ _ _ h => h) (yG_val _ (by rfl) (fun w' _ => by (go_simp; try rfl))) ?_
            (try simp only [Act.put, List.getElem_toArray, List.getElem_cons_succ, List.getElem_cons_zero, List.setIfInBounds_toArray, List.set_cons_zero, List.set_cons_succ])
            refine wpGrA_end (by kernel_rfl) ?_
            intro w5 hb5
            simp only [List.drop_succ_cons, List.drop_zero]
            have HB5 := hid (HB.out.trans (hb5.mono HB.out.size))
            clear hb5
            go_wp2
            go_ret
            exact ⟨by rw [HR.out]; rfl, HB5.out⟩
          | true =>
            have HR : Hid (r = p2) := hid (by rw [HRR.out]; rfl)
            clear HRR
            go_upto_region 10 with fail
            refine wp_region_grA 16 (by kernel_rfl) (by decide) ?_
            refine wpGrA_take (i := 0) (.slice (some ⟨b, o, none⟩) t.length c) rfl (by kernel_rfl) (by kernel_rfl) (fun _ _ _ h => h) (yG_val _ (by rfl) (fun w' _ => by (go_simp; try rfl))) ?_
            (try simp only [Act.put, List.getElem_toArray, List.getElem_cons_succ, List.getElem_cons_zero, List.setIfInBounds_toArray, List.set_cons_zero, List.set_cons_succ])
            refine wpGrA_take (i := 1) (.int .i64 (x : Int)) rfl (by kernel_rfl) (by kernel_rfl) (fun _ _ _ h => h) (yG_val _ (by rfl) (fun w' _ => by (go_simp; try rfl))) ?_
            (try simp only [Act.put, List.getElem_toArray, List.getElem_cons_succ, List.getElem_cons_zero, List.setIfInBounds_toArray, List.set_cons_zero, List.set_cons_succ])
            refine wpGrA_take (i := 2) (.int .i64 (y : Int)) rfl (by kernel_rfl) (by kernel_rfl) (fun _ _ _ h => h) (yG_call (by rfl) (fun w' => by go_simp) (fun w' hb => HLe.out w' (HB.out.trans (hb.mono HB.out.size)))) ?_
            (try simp only [Act.put, List.getElem_toArray, List.getElem_cons_succ, List.getElem_cons_zero, List.setIfInBounds_toArray, List.set_cons_zero, List.set_cons_succ])
            refine wpGrA_take (i := 3) (.slice LA L.length LC) rfl (by kernel_rfl) (by kernel_rfl) (fun _ _ _ h => h) (yG_val _ (by rfl) (fun w' _ => by (go_simp; try rfl))) ?_
            (try simp only [Act.put, List.getElem_toArray, List.getElem_cons_succ, List.getElem_cons_zero, List.setIfInBounds_toArray, List.set_cons_zero, List.set_cons_succ])
            refine wpGrA_take (i := 4) (.int .i64 (ct : Int)) rfl (by kernel_rfl) (by kernel_rfl) (fun _ _ _ h => h) (yG_val _ (by rfl) (fun w' _ => by (go_simp; try rfl))) ?_
            (try simp only [Act.put, List.getElem_toArray, List.getElem_cons_succ, List.getElem_cons_zero, List.setIfInBounds_toArray, List.set_cons_zero, List.set_cons_succ])
            refine wpGrA_take (i := 5) (.slice LA ct LC) rfl (by kernel_rfl) (by kernel_rfl) (fun _ _ _ h => h) (yG_val _ (by rfl) (fun w' _ => by have h1 := hc0; have h2 := hcc; (go_simp; try rfl))) ?_
            (try simp only [Act.put, List.getElem_toArray, List.getElem_cons_succ, List.getElem_cons_zero, List.setIfInBounds_toArray, List.set_cons_zero, List.set_cons_succ])
            refine wpGrA_take (i := 6) (.bool true) rfl (by kernel_rfl) (by kernel_rfl) (fun _ _ _ h => h) (yG_call (by rfl) (fun w' => by go_simp) (fun w' hb => HI1.out w' (HB.out.trans (hb.mono HB.out.size)))) ?_
            (try simp only [Act.put, List.getElem_toArray, List.getElem_cons_succ, List.getElem_cons_zero, List.setIfInBounds_toArray, List.set_cons_zero, List.set_cons_succ])
            refine wpGrA_take (i := 7) (.bool true) rfl (by kernel_rfl) (by kernel_rfl) (fun _ _ _ h => h) (yG_val _ (by rfl) (fun w' _ => by (go_simp; try rfl))) ?_
            (try simp only [Act.put, List.getElem_toArray, List.getElem_cons_succ, List.getElem_cons_zero, List.setIfInBounds_toArray, List.set_cons_zero, List.set_cons_succ])
            refine wpGrA_take (i := 8) (.slice (some ⟨b, o, none⟩) t.length c) rfl (by kernel_rfl) (by kernel_rfl) (fun _ _ _ h => h) (yG_val _ (by rfl) (fun w' _ => by (go_simp; try rfl))) ?_
            (try simp only [Act.put, List.getElem_toArray, List.getElem_cons_succ, List.getElem_cons_zero, List.setIfInBounds_toArray, List.set_cons_zero, List.set_cons_succ])
            refine wpGrA_take (i := 9) (.int .i64 (x : Int)) rfl (by kernel_rfl) (by kernel_rfl) (fun _ _ _ h => h) (yG_val _ (by rfl) (fun w' _ => by (go_simp; try rfl))) ?_
            (try simp only [Act.put, List.getElem_toArray, List.getElem_cons_succ, List.getElem_cons_zero, List.setIfInBounds_toArray, List.set_cons_zero, List.set_cons_succ])
            refine wpGrA_take (i := 10) (.int .i64 (z : Int)) rfl (by kernel_rfl) (by kernel_rfl) (fun _ _ _ h => h) (yG_call (by rfl) (fun w' => by go_simp) (fun w' hb => HRi.out w' (HB.out.trans (hb.mono HB.out.size)))) ?_
            (try simp only [Act.put, List.getElem_toArray, List.getElem_cons_succ, List.getElem_cons_zero, List.setIfInBounds_toArray, List.set_cons_zero, List.set_cons_succ])
            refine wpGrA_take (i := 11) (.slice LA L.length LC) rfl (by kernel_rfl) (by kernel_rfl) (fun _ _ _ h => h) (yG_val _ (by rfl) (fun w' _ => by (go_simp; try rfl))) ?_
            (try simp only [Act.put, List.getElem_toArray, List.getElem_cons_succ, List.getElem_cons_zero, List.setIfInBounds_toArray, List.set_cons_zero, List.set_cons_succ])
            refine wpGrA_take (i := 12) (.int .i64 (ct : Int)) rfl (by kernel_rfl) (by kernel_rfl) (fun _ _ _ h => h) (yG_val _ (by rfl) (fun w' _ => by (go_simp; try rfl))) ?_
            (try simp only [Act.put, List.getElem_toArray, List.getElem_cons_succ, List.getElem_cons_zero, List.setIfInBounds_toArray, List.set_cons_zero, List.set_cons_succ])
            refine wpGrA_take (i := 13) (.slice (restA LA ct LC) (L.length - ct) (LC - ct)) rfl (by kernel_rfl) (by kernel_rfl) (fun _ _ _ h => h) (yG_val _ (by rfl) (fun w' _ => by have h1 := hc0; have h2 := hcl; (go_simp; try rfl))) ?_
            (try simp only [Act.put, List.getElem_toArray, List.getElem_cons_succ, List.getElem_cons_zero, List.setIfInBounds_toArray, List.set_cons_zero, List.set_cons_succ])
            refine wpGrA_take (i := 14) (.bool p2) rfl (by kernel_rfl) (by kernel_rfl) (fun _ _ _ h => h) (yG_call (by rfl) (fun w' => by go_simp) (fun w' hb => HI2.out w' (HB.out.trans (hb.mono HB.out.size)))) ?_
            (try simp only [Act.put, List.getElem_toArray, List.getElem_cons_succ, List.getElem_cons_zero, List.setIfInBounds_toArray, List.set_cons_zero, List.set_cons_succ])
            refine wpGrA_take (i := 15) (.bool p2) rfl (by kernel_rfl) (by kernel_rfl) (fun _ _ _ h => h) (yG_val _ (by rfl) (fun w' _ => by (go_simp; try rfl))) ?_
            (try simp only [Act.put, List.getElem_toArray, List.getElem_cons_succ, List.getElem_cons_zero, List.setIfInBounds_toArray, List.set_cons_zero, List.set_cons_succ])
            refine wpGrA_end (by kernel_rfl) ?_
            intro w5 hb5
            simp only [List.drop_succ_cons, List.drop_zero]
            have HB5 := hid (HB.out.trans (hb5.mono HB.out.size))
            clear hb5
            go_wp2
            go_ret
            exact ⟨by rw [HR.out]; rfl, HB5.out⟩
    · have HRR := hid (HLN.out hk2)
      obtain ⟨hI1, hI2⟩ := HGO.out ab A2 c2 hA2 hs hab hac hc2
      have HBL := hid (HBS.out ab A2 c2 hA2 hs hab)
      have hki : ((n.k : Int) == 2) = false := by rw [beq_eq_false_iff_ne]; omega
      have hcl := cutL_le ab M
      obtain ⟨p1, hp1⟩ : ∃ b, b = lateR t l (2 * q) (ab.take (cutL ab M)) := ⟨_, rfl⟩
      obtain ⟨p2, hp2⟩ : ∃ b, b = lateR t l (2 * q + 1) (ab.drop (cutL ab M)) := ⟨_, rfl⟩
      obtain ⟨mq, hmq⟩ : ∃ b, b = decide (M ∈ ab) := ⟨_, rfl⟩
      rw [← hp1] at hI1 HRR
      rw [← hp2] at hI2 HRR
      rw [← hmq] at HBL
      obtain ⟨ct, hct⟩ : ∃ k, k = cutL ab M := ⟨_, rfl⟩
      rw [← hct] at hI1 hI2 HBL hcl
      obtain ⟨L, hL⟩ : ∃ k, k = ab := ⟨_, rfl⟩
      obtain ⟨LA, hLA⟩ : ∃ k, k = A2 := ⟨_, rfl⟩
      obtain ⟨LC, hLC⟩ : ∃ k, k = c2 := ⟨_, rfl⟩
      rw [← hL] at hI2 HBL hcl hac ⊢
      rw [← hLA] at hI1 hI2 HBL ⊢
      rw [← hLC] at hI1 hI2 HBL hac ⊢
      have HI1 := hid hI1; have HI2 := hid hI2
      have hc0 : (0 : Int) ≤ (ct : Int) := by omega
      have hcc : (ct : Int) ≤ (LC : Int) := by omega
      have hcl : (ct : Int) ≤ (L.length : Int) := by omega
      clear hI1 hI2 hL hLA hLC hct hp1 hp2 hmq hk2 HLR HLN HGO HBS hbig hps hM hG hF hx hy hz' hr2 hlie hll hrise lc1 lc2 hni hr hna hnn hnt hbl hlt hA hA2 hs hab hac hc2 hq hl hq16 hl16 q1 q2 ih har hz HBE HHA hlcell
      have HB := HB0
      clear HB0
      go_enter Try.func42, Try.ntmps42
      go_wp2_with fail
      refine (HIS.out _).mono ?_
      rintro e w1 ⟨rfl, rfl⟩
      clear HIS
      go_wp2_with fail
      refine (HLe.out _ HB.out).mono ?_
      rintro e w3 ⟨rfl, hb⟩
      have HB3 := hid (HB.out.trans (hb.mono HB.out.size))
      clear hb HB
      go_wp2_with fail
      refine (HSp.out _).mono ?_
      rintro e w4 ⟨rfl, hb⟩
      have HB4 := hid (HB3.out.trans (hb.mono HB3.out.size))
      clear hb HB3 HSp
      go_wp2_with fail
      refine (HBL.out _ HB4.out).mono ?_
      rintro e w6 ⟨rfl, hb⟩
      have HB := hid (HB4.out.trans (hb.mono HB4.out.size))
      clear hb HB4 HBL
      cases p1 with
      | false =>
        have HR : Hid (r = false) := hid (by rw [HRR.out]; rfl)
        clear HRR HI2 HRi
        go_upto_region 10 with fail
        refine wp_region_grA 16 (by kernel_rfl) (by decide) ?_
        refine wpGrA_take (i := 0) (.slice (some ⟨b, o, none⟩) t.length c) rfl (by kernel_rfl) (by kernel_rfl) (fun _ _ _ h => h) (yG_val _ (by rfl) (fun w' _ => by (go_simp; try rfl))) ?_
        (try simp only [Act.put, List.getElem_toArray, List.getElem_cons_succ, List.getElem_cons_zero, List.setIfInBounds_toArray, List.set_cons_zero, List.set_cons_succ])
        refine wpGrA_take (i := 1) (.int .i64 (x : Int)) rfl (by kernel_rfl) (by kernel_rfl) (fun _ _ _ h => h) (yG_val _ (by rfl) (fun w' _ => by (go_simp; try rfl))) ?_
        (try simp only [Act.put, List.getElem_toArray, List.getElem_cons_succ, List.getElem_cons_zero, List.setIfInBounds_toArray, List.set_cons_zero, List.set_cons_succ])
        refine wpGrA_take (i := 2) (.int .i64 (y : Int)) rfl (by kernel_rfl) (by kernel_rfl) (fun _ _ _ h => h) (yG_call (by rfl) (fun w' => by go_simp) (fun w' hb => HLe.out w' (HB.out.trans (hb.mono HB.out.size)))) ?_
        (try simp only [Act.put, List.getElem_toArray, List.getElem_cons_succ, List.getElem_cons_zero, List.setIfInBounds_toArray, List.set_cons_zero, List.set_cons_succ])
        refine wpGrA_take (i := 3) (.slice LA L.length LC) rfl (by kernel_rfl) (by kernel_rfl) (fun _ _ _ h => h) (yG_val _ (by rfl) (fun w' _ => by (go_simp; try rfl))) ?_
        (try simp only [Act.put, List.getElem_toArray, List.getElem_cons_succ, List.getElem_cons_zero, List.setIfInBounds_toArray, List.set_cons_zero, List.set_cons_succ])
        refine wpGrA_take (i := 4) (.int .i64 (ct : Int)) rfl (by kernel_rfl) (by kernel_rfl) (fun _ _ _ h => h) (yG_val _ (by rfl) (fun w' _ => by (go_simp; try rfl))) ?_
        (try simp only [Act.put, List.getElem_toArray, List.getElem_cons_succ, List.getElem_cons_zero, List.setIfInBounds_toArray, List.set_cons_zero, List.set_cons_succ])
        refine wpGrA_take (i := 5) (.slice LA ct LC) rfl (by kernel_rfl) (by kernel_rfl) (fun _ _ _ h => h) (yG_val _ (by rfl) (fun w' _ => by have h1 := hc0; have h2 := hcc; (go_simp; try rfl))) ?_
        (try simp only [Act.put, List.getElem_toArray, List.getElem_cons_succ, List.getElem_cons_zero, List.setIfInBounds_toArray, List.set_cons_zero, List.set_cons_succ])
        refine wpGrA_take (i := 6) (.bool false) rfl (by kernel_rfl) (by kernel_rfl) (fun _ _ _ h => h) (yG_call (by rfl) (fun w' => by go_simp) (fun w' hb => HI1.out w' (HB.out.trans (hb.mono HB.out.size)))) ?_
        (try simp only [Act.put, List.getElem_toArray, List.getElem_cons_succ, List.getElem_cons_zero, List.setIfInBounds_toArray, List.set_cons_zero, List.set_cons_succ])
        refine wpGrA_take (i := 7) (.bool false) rfl (by kernel_rfl) (by kernel_rfl) (fun _ _ _ h => h) (yG_val _ (by rfl) (fun w' _ => by (go_simp; try rfl))) ?_
        (try simp only [Act.put, List.getElem_toArray, List.getElem_cons_succ, List.getElem_cons_zero, List.setIfInBounds_toArray, List.set_cons_zero, List.set_cons_succ])
        refine wpGrA_take (i := 8) (undef) rfl (by kernel_rfl) (by kernel_rfl) (fun _ _ _ h => h) (yG_skip (by rfl)) ?_
        (try simp only [Act.put, List.getElem_toArray, List.getElem_cons_succ, List.getElem_cons_zero, List.setIfInBounds_toArray, List.set_cons_zero, List.set_cons_succ])
        refine wpGrA_take (i := 9) (undef) rfl (by kernel_rfl) (by kernel_rfl) (fun _ _ _ h => h) (yG_skip (by rfl)) ?_
        (try simp only [Act.put, List.getElem_toArray, List.getElem_cons_succ, List.getElem_cons_zero, List.setIfInBounds_toArray, List.set_cons_zero, List.set_cons_succ])
        refine wpGrA_take (i := 10) (undef) rfl (by kernel_rfl) (by kernel_rfl) (fun _ _ _ h => h) (yG_skip (by rfl)) ?_
        (try simp only [Act.put, List.getElem_toArray, List.getElem_cons_succ, List.getElem_cons_zero, List.setIfInBounds_toArray, List.set_cons_zero, List.set_cons_succ])
        refine wpGrA_take (i := 11) (undef) rfl (by kernel_rfl) (by kernel_rfl) (fun _ _ _ h => h) (yG_skip (by rfl)) ?_
        (try simp only [Act.put, List.getElem_toArray, List.getElem_cons_succ, List.getElem_cons_zero, List.setIfInBounds_toArray, List.set_cons_zero, List.set_cons_succ])
        refine wpGrA_take (i := 12) (undef) rfl (by kernel_rfl) (by kernel_rfl) (fun _ _ _ h => h) (yG_skip (by rfl)) ?_
        (try simp only [Act.put, List.getElem_toArray, List.getElem_cons_succ, List.getElem_cons_zero, List.setIfInBounds_toArray, List.set_cons_zero, List.set_cons_succ])
        refine wpGrA_take (i := 13) (undef) rfl (by kernel_rfl) (by kernel_rfl) (fun _ _ _ h => h) (yG_skip (by rfl)) ?_
        (try simp only [Act.put, List.getElem_toArray, List.getElem_cons_succ, List.getElem_cons_zero, List.setIfInBounds_toArray, List.set_cons_zero, List.set_cons_succ])
        refine wpGrA_take (i := 14) (undef) rfl (by kernel_rfl) (by kernel_rfl) (fun _ _ _ h => h) (yG_skip (by rfl)) ?_
        (try simp only [Act.put, List.getElem_toArray, List.getElem_cons_succ, List.getElem_cons_zero, List.setIfInBounds_toArray, List.set_cons_zero, List.set_cons_succ])
        refine wpGrA_take (i := 15) (.bool false) rfl (by kernel_rfl) (by kernel_rfl) (fun _ _ _ h => h) (yG_val _ (by rfl) (fun w' _ => by (go_simp; try rfl))) ?_
        (try simp only [Act.put, List.getElem_toArray, List.getElem_cons_succ, List.getElem_cons_zero, List.setIfInBounds_toArray, List.set_cons_zero, List.set_cons_succ])
        refine wpGrA_end (by kernel_rfl) ?_
        intro w5 hb5
        simp only [List.drop_succ_cons, List.drop_zero]
        have HB5 := hid (HB.out.trans (hb5.mono HB.out.size))
        clear hb5
        go_wp2
        go_ret
        exact ⟨by rw [HR.out]; rfl, HB5.out⟩
      | true =>
        have HR : Hid (r = p2) := hid (by rw [HRR.out]; rfl)
        clear HRR
        go_upto_region 10 with fail
        refine wp_region_grA 16 (by kernel_rfl) (by decide) ?_
        refine wpGrA_take (i := 0) (.slice (some ⟨b, o, none⟩) t.length c) rfl (by kernel_rfl) (by kernel_rfl) (fun _ _ _ h => h) (yG_val _ (by rfl) (fun w' _ => by (go_simp; try rfl))) ?_
        (try simp only [Act.put, List.getElem_toArray, List.getElem_cons_succ, List.getElem_cons_zero, List.setIfInBounds_toArray, List.set_cons_zero, List.set_cons_succ])
        refine wpGrA_take (i := 1) (.int .i64 (x : Int)) rfl (by kernel_rfl) (by kernel_rfl) (fun _ _ _ h => h) (yG_val _ (by rfl) (fun w' _ => by (go_simp; try rfl))) ?_
        (try simp only [Act.put, List.getElem_toArray, List.getElem_cons_succ, List.getElem_cons_zero, List.setIfInBounds_toArray, List.set_cons_zero, List.set_cons_succ])
        refine wpGrA_take (i := 2) (.int .i64 (y : Int)) rfl (by kernel_rfl) (by kernel_rfl) (fun _ _ _ h => h) (yG_call (by rfl) (fun w' => by go_simp) (fun w' hb => HLe.out w' (HB.out.trans (hb.mono HB.out.size)))) ?_
        (try simp only [Act.put, List.getElem_toArray, List.getElem_cons_succ, List.getElem_cons_zero, List.setIfInBounds_toArray, List.set_cons_zero, List.set_cons_succ])
        refine wpGrA_take (i := 3) (.slice LA L.length LC) rfl (by kernel_rfl) (by kernel_rfl) (fun _ _ _ h => h) (yG_val _ (by rfl) (fun w' _ => by (go_simp; try rfl))) ?_
        (try simp only [Act.put, List.getElem_toArray, List.getElem_cons_succ, List.getElem_cons_zero, List.setIfInBounds_toArray, List.set_cons_zero, List.set_cons_succ])
        refine wpGrA_take (i := 4) (.int .i64 (ct : Int)) rfl (by kernel_rfl) (by kernel_rfl) (fun _ _ _ h => h) (yG_val _ (by rfl) (fun w' _ => by (go_simp; try rfl))) ?_
        (try simp only [Act.put, List.getElem_toArray, List.getElem_cons_succ, List.getElem_cons_zero, List.setIfInBounds_toArray, List.set_cons_zero, List.set_cons_succ])
        refine wpGrA_take (i := 5) (.slice LA ct LC) rfl (by kernel_rfl) (by kernel_rfl) (fun _ _ _ h => h) (yG_val _ (by rfl) (fun w' _ => by have h1 := hc0; have h2 := hcc; (go_simp; try rfl))) ?_
        (try simp only [Act.put, List.getElem_toArray, List.getElem_cons_succ, List.getElem_cons_zero, List.setIfInBounds_toArray, List.set_cons_zero, List.set_cons_succ])
        refine wpGrA_take (i := 6) (.bool true) rfl (by kernel_rfl) (by kernel_rfl) (fun _ _ _ h => h) (yG_call (by rfl) (fun w' => by go_simp) (fun w' hb => HI1.out w' (HB.out.trans (hb.mono HB.out.size)))) ?_
        (try simp only [Act.put, List.getElem_toArray, List.getElem_cons_succ, List.getElem_cons_zero, List.setIfInBounds_toArray, List.set_cons_zero, List.set_cons_succ])
        refine wpGrA_take (i := 7) (.bool true) rfl (by kernel_rfl) (by kernel_rfl) (fun _ _ _ h => h) (yG_val _ (by rfl) (fun w' _ => by (go_simp; try rfl))) ?_
        (try simp only [Act.put, List.getElem_toArray, List.getElem_cons_succ, List.getElem_cons_zero, List.setIfInBounds_toArray, List.set_cons_zero, List.set_cons_succ])
        refine wpGrA_take (i := 8) (.slice (some ⟨b, o, none⟩) t.length c) rfl (by kernel_rfl) (by kernel_rfl) (fun _ _ _ h => h) (yG_val _ (by rfl) (fun w' _ => by (go_simp; try rfl))) ?_
        (try simp only [Act.put, List.getElem_toArray, List.getElem_cons_succ, List.getElem_cons_zero, List.setIfInBounds_toArray, List.set_cons_zero, List.set_cons_succ])
        refine wpGrA_take (i := 9) (.int .i64 (x : Int)) rfl (by kernel_rfl) (by kernel_rfl) (fun _ _ _ h => h) (yG_val _ (by rfl) (fun w' _ => by (go_simp; try rfl))) ?_
        (try simp only [Act.put, List.getElem_toArray, List.getElem_cons_succ, List.getElem_cons_zero, List.setIfInBounds_toArray, List.set_cons_zero, List.set_cons_succ])
        refine wpGrA_take (i := 10) (.int .i64 (z : Int)) rfl (by kernel_rfl) (by kernel_rfl) (fun _ _ _ h => h) (yG_call (by rfl) (fun w' => by go_simp) (fun w' hb => HRi.out w' (HB.out.trans (hb.mono HB.out.size)))) ?_
        (try simp only [Act.put, List.getElem_toArray, List.getElem_cons_succ, List.getElem_cons_zero, List.setIfInBounds_toArray, List.set_cons_zero, List.set_cons_succ])
        refine wpGrA_take (i := 11) (.slice LA L.length LC) rfl (by kernel_rfl) (by kernel_rfl) (fun _ _ _ h => h) (yG_val _ (by rfl) (fun w' _ => by (go_simp; try rfl))) ?_
        (try simp only [Act.put, List.getElem_toArray, List.getElem_cons_succ, List.getElem_cons_zero, List.setIfInBounds_toArray, List.set_cons_zero, List.set_cons_succ])
        refine wpGrA_take (i := 12) (.int .i64 (ct : Int)) rfl (by kernel_rfl) (by kernel_rfl) (fun _ _ _ h => h) (yG_val _ (by rfl) (fun w' _ => by (go_simp; try rfl))) ?_
        (try simp only [Act.put, List.getElem_toArray, List.getElem_cons_succ, List.getElem_cons_zero, List.setIfInBounds_toArray, List.set_cons_zero, List.set_cons_succ])
        refine wpGrA_take (i := 13) (.slice (restA LA ct LC) (L.length - ct) (LC - ct)) rfl (by kernel_rfl) (by kernel_rfl) (fun _ _ _ h => h) (yG_val _ (by rfl) (fun w' _ => by have h1 := hc0; have h2 := hcl; (go_simp; try rfl))) ?_
        (try simp only [Act.put, List.getElem_toArray, List.getElem_cons_succ, List.getElem_cons_zero, List.setIfInBounds_toArray, List.set_cons_zero, List.set_cons_succ])
        refine wpGrA_take (i := 14) (.bool p2) rfl (by kernel_rfl) (by kernel_rfl) (fun _ _ _ h => h) (yG_call (by rfl) (fun w' => by go_simp) (fun w' hb => HI2.out w' (HB.out.trans (hb.mono HB.out.size)))) ?_
        (try simp only [Act.put, List.getElem_toArray, List.getElem_cons_succ, List.getElem_cons_zero, List.setIfInBounds_toArray, List.set_cons_zero, List.set_cons_succ])
        refine wpGrA_take (i := 15) (.bool p2) rfl (by kernel_rfl) (by kernel_rfl) (fun _ _ _ h => h) (yG_val _ (by rfl) (fun w' _ => by (go_simp; try rfl))) ?_
        (try simp only [Act.put, List.getElem_toArray, List.getElem_cons_succ, List.getElem_cons_zero, List.setIfInBounds_toArray, List.set_cons_zero, List.set_cons_succ])
        refine wpGrA_end (by kernel_rfl) ?_
        intro w5 hb5
        simp only [List.drop_succ_cons, List.drop_zero]
        have HB5 := hid (HB.out.trans (hb5.mono HB.out.size))
        clear hb5
        go_wp2
        go_ret
        exact ⟨by rw [HR.out]; rfl, HB5.out⟩
end Go.Proofs.Ythooibljnfnnhaa
end
