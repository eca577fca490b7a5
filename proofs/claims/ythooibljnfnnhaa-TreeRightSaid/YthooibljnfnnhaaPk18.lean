/-
  Texts of this claim in one file: Ref17a, Ref17b, Ref17c, Ref17d.
-/
import Derived.Test.YthooibljnfnnhaaPk12
import Derived.Test.YthooibljnfnnhaaPk5
import Derived.Test.YthooibljnfnnhaaPk2
import Derived.Test.YthooibljnfnnhaaPk15
section
namespace Go.Proofs.Ythooibljnfnnhaa
open Go Go.RowKit
set_option linter.unusedVariables false
set_option linter.unusedSimpArgs false
/-- The levels of a row of so many nodes. -/
def lvsK (L : Nat) : Option Nat := (List.range 17).find? fun K => decide (2 * 2 ^ K - 1 = L)
def lvsN (L : Nat) : Nat := match lvsK L with | some K => 2 ^ K | none => 0
theorem lvs_some {L K : Nat} (hK : K ≤ 16) (h : L = 2 * 2 ^ K - 1) : lvsK L = some K := by
  unfold lvsK
  rw [List.find?_range_eq_some]
  refine ⟨decide_eq_true h.symm, List.mem_range.2 (by omega), fun j hj => ?_⟩
  have := Nat.pow_lt_pow_right (show 1 < 2 by decide) hj
  simp only [Bool.not_eq_true', decide_eq_false_iff_not]
  have := Nat.two_pow_pos j
  omega
theorem lvs_none {L : Nat} (h : ∀ K, K ≤ 16 → 2 * 2 ^ K - 1 ≠ L) : lvsK L = none := by
  unfold lvsK
  rw [List.find?_eq_none]
  intro K hK
  have := List.mem_range.1 hK
  simpa using h K (by omega)
theorem lvs_sz {t : List Nd} {K : Nat} (h : Sz t K) : lvsK t.length = some K := lvs_some h.2 h.1
set_option maxHeartbeats 1000000 in
theorem Leaves17_any (A : Option Addr) (L c : Nat) (w : World) (hL : L ≤ 1000000) : Calls Try.prog 33 #[.slice A L c] w fun e w' => e = .returned (.int .i64 (lvsN L : Int)) ∧ w' = w := by
  go_enter Try.func33, Try.ntmps33
  go_wp2
  go_loopg [3] 17 (fun r n wr => ∃ K : Nat, K + r = 17 ∧ n = .int .i64 ((2 ^ K : Nat) : Int) ∧ (∀ j, j < K → 2 * 2 ^ j - 1 ≠ L) ∧ wr = w)
  case atStart => exact ⟨0, by omega, rfl, fun j hj => by omega, rfl⟩
  case round =>
    obtain ⟨K, hK, rfl, hno, rfl⟩ := hrel
    have HK := hid hK; have HNO := hid hno
    clear hK hno
    by_cases hlt : K < 17
    · have hle : 2 ^ K ≤ 65536 := by
        have := Nat.pow_le_pow_right (show 0 < 2 by decide) (show K ≤ 16 by omega)
        exact this
      have hps : 2 ^ (K + 1) = 2 * 2 ^ K := by rw [Nat.pow_succ]; omega
      have hpp := Nat.two_pow_pos K
      obtain ⟨n, hn⟩ : ∃ n, n = 2 ^ K := ⟨_, rfl⟩
      rw [← hn] at hle hps hpp ⊢
      have HPS := hid hps; have HN := hid hn
      have hni : (n : Int) ≤ 65536 := by omega
      have hw2 : wrap64 (2 * (n : Int)) = 2 * (n : Int) := wrap64_in (by omega) (by omega)
      have hw3 : wrap64 (2 * (n : Int) - 1) = 2 * (n : Int) - 1 := wrap64_in (by omega) (by omega)
      by_cases he : 2 * n - 1 = L
      · have hei : (2 * (n : Int) - 1 == (L : Int)) = true := by rw [beq_iff_eq]; omega
        have HR : Hid (lvsN L = n) := hid (by unfold lvsN; rw [lvs_some (K := K) (by omega) (by rw [← hn]; exact he.symm)]; exact hn.symm)
        clear hps hn hle hpp he
        go_wp2
        go_ret
        exact ⟨by rw [HR.out]; rfl, rfl⟩
      · have hei : (2 * (n : Int) - 1 == (L : Int)) = false := by rw [beq_eq_false_iff_ne]; omega
        have HNE := hid he
        clear hps hn hle hpp he
        go_wp2
        have hK := HK.out
        go_roundg (17 - (K + 1))
        case measure => omega
        case rel => exact ⟨K + 1, by omega, by rw [HPS.out]; go_num, fun j hj => by
          rcases Nat.lt_or_ge j K with h1 | h1
          · exact HNO.out j h1
          · obtain rfl : j = K := by omega
            rw [← HN.out]; exact HNE.out, rfl⟩
    · obtain rfl : K = 17 := by have := HK.out; omega
      have HR : Hid (lvsN L = 0) := hid (by unfold lvsN; rw [lvs_none fun j hj => HNO.out j (by omega)])
      clear hlt
      go_wp2
      go_ret
      exact ⟨by rw [HR.out]; rfl, rfl⟩
set_option maxHeartbeats 1000000 in
theorem has17_any (A : Option Addr) (xs : List Int) (c : Nat) (x : Int) (w : World) (hA : Lie w w.heap.size A (izs xs)) (hl : xs.length ≤ 1000000) : Calls Try.prog 35 #[.slice A xs.length c, .int .i64 x] w fun e w' => e = .returned (.bool (decide (x ∈ xs))) ∧ w' = w := by
  go_enter Try.func35, Try.ntmps35
  go_wp2
  go_loopg [5] xs.length (fun r i wr => ∃ k : Nat, k + r = xs.length ∧ i = .int .i64 (k : Int) ∧ (∀ j, j < k → xs[j]? ≠ some x) ∧ wr = w)
  case atStart => exact ⟨0, by omega, rfl, fun j hj => by omega, rfl⟩
  case round =>
    obtain ⟨k, hk, rfl, hno, rfl⟩ := hrel
    have HK := hid hk; have HNO := hid hno
    clear hk hno
    by_cases hlt : k < xs.length
    · obtain ⟨b, o, rfl, hb, hc⟩ := hA.numZ hlt
      have hx : (k : Int) < (xs.length : Int) := by omega
      have h0 : (0 : Int) ≤ (k : Int) := by omega
      have hwk : wrap64 ((k : Int) + 1) = (k : Int) + 1 := wrap64_in (by omega) (by omega)
      have HG : Hid (xs[k]? = some xs[k]) := hid (List.getElem?_eq_getElem hlt)
      by_cases he : xs[k] = x
      · have hei : (xs[k] == x) = true := by rw [beq_iff_eq]; exact he
        have HR : Hid (decide (x ∈ xs) = true) := hid (decide_eq_true (he ▸ List.getElem_mem hlt))
        clear he
        go_wp2
        go_ret
        exact ⟨by rw [HR.out]; rfl, rfl⟩
      · have hei : (xs[k] == x) = false := by rw [beq_eq_false_iff_ne]; exact he
        have HNE := hid he
        clear he
        go_wp2
        have hk := HK.out
        go_roundg (xs.length - (k + 1))
        case measure => omega
        case rel => exact ⟨k + 1, by omega, by first | rfl | (rw [hwk]; rfl), fun j hj => by
          rcases Nat.lt_or_ge j k with h1 | h1
          · exact HNO.out j h1
          · obtain rfl : j = k := by omega
            rw [HG.out]; intro h2; exact HNE.out (Option.some.inj h2), rfl⟩
    · have hge : ¬ (k : Int) < (xs.length : Int) := by omega
      have HR : Hid (decide (x ∈ xs) = false) := hid (decide_eq_false fun hm => by
        obtain ⟨j, hj, hje⟩ := List.getElem_of_mem hm
        exact HNO.out j (by have := HK.out; omega) (by rw [List.getElem?_eq_getElem hj, hje]))
      clear hlt
      go_wp2
      go_ret
      exact ⟨by rw [HR.out]; rfl, rfl⟩
end Go.Proofs.Ythooibljnfnnhaa
end
section
namespace Go.Proofs.Ythooibljnfnnhaa
open Go Go.RowKit
set_option linter.unusedVariables false
set_option linter.unusedSimpArgs false
theorem in16 {x : Nat} (h : x ≤ 131070) : lv x ≤ 16 ∧ qt x < 2 ^ (16 - lv x) := (in_tree (x := x) (h := 16)).1 (by omega)
theorem under_und {x y : Nat} (hx : x ≤ 131070) (hy : y ≤ 131070) : underZ (y : Int) (x : Int) = decide (und y x) := by
  obtain ⟨x1, x2⟩ := in16 hx
  obtain ⟨y1, y2⟩ := in16 hy
  have h := underZ_nd y2 (show lv y + (16 - lv y) = 16 by omega) x2 (show lv x + (16 - lv x) = 16 by omega)
  rw [nd_of, nd_of] at h
  rw [h, Bool.eq_iff_iff, und_iff, decide_eq_true_iff]
  rfl
theorem under_bel {x i : Nat} (hx : x ≤ 131070) (hi : i ≤ 65535) : underZ ((2 * i : Nat) : Int) (x : Int) = decide (bel i x) := by
  rw [under_und hx (by omega), decide_eq_decide, ← nd_zero]
  unfold und bel
  rw [lv_nd, qt_nd, Nat.sub_zero]
  exact ⟨fun h => h.2, fun h => ⟨Nat.zero_le _, h⟩⟩
theorem memT_step (t : List Nd) (n : Nat) : memT t (n + 1) = memT t n ++ if (nAt t (2 * n)).k = 1 then [n] else [] := by
  unfold memT
  rw [List.range_succ, List.filter_append, List.filter_cons]
  by_cases hk : (nAt t (2 * n)).k = 1
  · rw [decide_eq_true hk, if_pos hk]; rfl
  · rw [decide_eq_false hk, if_neg hk]; rfl
set_option maxRecDepth 100000 in
set_option maxHeartbeats 1000000 in
theorem Members17_any (A : Option Addr) (t : List Nd) (ad : List NA) (c : Nat) (w : World) (hA : TrIn w w.heap.size A t ad) (hl : t.length ≤ 131071) : Calls Try.prog 16 #[.slice A t.length c] w (OwnLn w (memT t ((t.length + 1) / 2))) := by
  have HA := hid hA; have HL := hid hl
  clear hA
  go_enter Try.func16, Try.ntmps16
  go_wp2
  go_loopg [3, 4] ((t.length + 1) / 2) (fun r v i wr => ∃ k : Nat, k + r = (t.length + 1) / 2 ∧ i = .int .i64 (k : Int) ∧ OwnI wr w.heap.size v (memT t k) ∧ Below w.heap.size w wr)
  case atStart => exact ⟨0, by omega, rfl, owni_nil _ _, Below.refl _ _⟩
  case round =>
    obtain ⟨k, hk, rfl, ho, hb⟩ := hrel
    have HK := hid hk; have HO := hid ho; have HB := hid hb
    have HM : Hid ((memT t k).length ≤ k) := hid (by unfold memT; exact Nat.le_trans (List.length_filter_le _ _) (by simp))
    obtain ⟨m, hm⟩ : ∃ m, m = 2 * k := ⟨_, rfl⟩
    have hw2 : wrap64 (2 * (k : Int)) = (m : Int) := (wrap64_in (by omega) (by omega)).trans (by omega)
    have hw1 : wrap64 ((k : Int) + 1) = (k : Int) + 1 := wrap64_in (by omega) (by omega)
    have HMM := hid hm
    clear hk ho hb
    by_cases hlt : m < t.length
    · obtain ⟨b, o, n, a, rfl, hbl, hn, hnn, -, hr⟩ := (HA.out.on HB.out).at_ hlt
      have hx : (m : Int) < (t.length : Int) := by omega
      have h0 : (0 : Int) ≤ (m : Int) := by omega
      have hkc := kind_at hr
      have HST := hid (memT_step t k)
      have HNK : Hid ((nAt t (2 * k)).k = n.k) := hid (by rw [← hm, ← hnn])
      have HLT := hid hlt
      clear hn hnn hr hm
      by_cases hk1 : n.k = 1
      · have hki : ((n.k : Int) == 1) = true := by rw [beq_iff_eq]; omega
        have HSN : Hid (memT t (k + 1) = memT t k ++ [k]) := hid (by rw [HST.out, if_pos (HNK.out.trans hk1)])
        clear hk1 HST HNK
        go_wp2_with (at_builtin; refine wpList_append_lie rfl _ _ 30 rfl w.heap.size 3 (.int .i64 0) 8 Try.underlying30 infoI64 rfl rfl (World.ownsRow.alloc HO.out (.cells #[.int .i64 (k : Int)] 3)) rfl rfl (Lie.new1 _ _ _) (by intro u hu; simp at hu; subst hu; rfl) ?d1 ?d2 ?d3 ?_)
        case d1 => have := HM.out; have := HLT.out; have := HMM.out; have := HL.out; unfold maxLen; simp; omega
        case d2 => have := HM.out; have := HLT.out; have := HMM.out; have := HL.out; simp; omega
        case d3 => have := HB.out.size; simp; omega
        intro v5 w5 hown5 hg5 _
        have HO5 : Hid (OwnI w5 w.heap.size v5 (memT t (k + 1))) := hid (by rw [HSN.out]; exact owni_snoc hown5 rfl rfl)
        have HB5 : Hid (Below w.heap.size w w5) := hid ((HB.out.alloc HB.out.size _).grown hg5 (by have := HB.out.size; simp; omega) (own_lt HO.out))
        clear hown5 hg5 HO HB hkc
        go_wp2
        have hk := HK.out; have hlt := HLT.out; have hmm := HMM.out
        go_roundg ((t.length + 1) / 2 - (k + 1))
        case measure => clear hw1 hw2; omega
        case rel => exact ⟨k + 1, by clear hw1 hw2; omega, by first | rfl | (rw [hw1]; rfl), HO5.out, HB5.out⟩
      · have hki : ((n.k : Int) == 1) = false := by rw [beq_eq_false_iff_ne]; omega
        have HSN : Hid (memT t (k + 1) = memT t k) := hid (by rw [HST.out, if_neg (by rw [HNK.out]; exact hk1), List.append_nil])
        clear hk1 HST HNK
        go_wp2
        have hk := HK.out; have hlt := HLT.out; have hmm := HMM.out
        go_roundg ((t.length + 1) / 2 - (k + 1))
        case measure => clear hw1 hw2; omega
        case rel => exact ⟨k + 1, by clear hw1 hw2; omega, by first | rfl | (rw [hw1]; rfl), by rw [HSN.out]; exact HO.out, HB.out⟩
    · have hge : ¬ (m : Int) < (t.length : Int) := by omega
      obtain rfl : k = (t.length + 1) / 2 := by have := HK.out; omega
      clear hlt hm
      go_wp2
      go_ret
      exact ⟨_, rfl, HO.out, HB.out⟩
end Go.Proofs.Ythooibljnfnnhaa
end
section
namespace Go.Proofs.Ythooibljnfnnhaa
open Go Go.RowKit
set_option linter.unusedVariables false
set_option linter.unusedSimpArgs false
def ints (xs : List Nat) : List Int := xs.map fun (n : Nat) => (n : Int)
theorem ints_length (xs : List Nat) : (ints xs).length = xs.length := by unfold ints; simp
theorem ivs_izs (xs : List Nat) : ivs xs = izs (ints xs) := by unfold ivs izs ints; rw [List.map_map]; rfl
/-- Is a place a member's? -/
def isT (t : List Nd) (z : Int) : Bool := decide (z ∈ ints (memT t ((t.length + 1) / 2)))
theorem memT_len (t : List Nd) (n : Nat) : (memT t n).length ≤ n := by unfold memT; exact Nat.le_trans (List.length_filter_le _ _) (by simp)
theorem Is17_any (A : Option Addr) (t : List Nd) (ad : List NA) (c : Nat) (z : Int) (w : World) (hA : TrIn w w.heap.size A t ad) (hl : t.length ≤ 131071) : Calls Try.prog 17 #[.slice A t.length c, .int .i64 z] w (RetB w (isT t z)) := by
  have HM := hid (Members17_any A t ad c w hA hl)
  have HLM : Hid ((memT t ((t.length + 1) / 2)).length ≤ 1000000) := hid (Nat.le_trans (memT_len _ _) (by omega))
  have HR : Hid (isT t z = decide (z ∈ ints (memT t ((t.length + 1) / 2)))) := hid rfl
  obtain ⟨ms, hms⟩ : ∃ m, m = memT t ((t.length + 1) / 2) := ⟨_, rfl⟩
  rw [← hms] at HM HLM HR
  clear hA hl hms
  go_enter Try.func17, Try.ntmps17
  go_wp2_with fail
  refine HM.out.mono ?_
  rintro e w1 ⟨v, rfl, ho, hb⟩
  obtain ⟨A1, c1, rfl, hs⟩ := own_sl ho
  have hlie := hs.lie
  rw [ivs_izs] at hlie
  have HH := hid (has17_any A1 (ints ms) c1 z w1 hlie (by rw [ints_length]; exact HLM.out))
  rw [ints_length] at HH
  have HB := hid hb
  clear ho hb hs hlie HM
  go_wp2_with fail
  refine HH.out.mono ?_
  rintro e w2 ⟨rfl, rfl⟩
  obtain ⟨q, hq⟩ : ∃ q, q = decide (z ∈ ints ms) := ⟨_, rfl⟩
  rw [← hq] at HR ⊢
  clear hq HH
  go_wp2
  go_ret
  exact ⟨by rw [HR.out]; rfl, HB.out⟩
end Go.Proofs.Ythooibljnfnnhaa
end
section
namespace Go.Proofs.Ythooibljnfnnhaa
open Go Go.RowKit
set_option linter.unusedVariables false
set_option linter.unusedSimpArgs false
abbrev ndLL (n : Nd) (a : NA) : List Value := [.int .u8 (n.k : Int), .slice a.l.a0 n.x.box.length a.l.c0, .slice a.l.a1 n.x.sign.length a.l.c1, .slice a.l.a2 n.x.ident.length a.l.c2, .int .u8 (n.x.src : Int), .slice a.l.a3 n.x.par.length a.l.c3, .slice a.l.a4 n.x.sig.length a.l.c4, .slice a.p.a0 n.u.box.length a.p.c0, .slice a.p.a1 n.u.hash.length a.p.c1, .slice a.p.a2 n.u.late.length a.p.c2]
theorem rng_ll {w : World} {b o : Nat} {n : Nd} {a : NA} (h : w.rangeAt b o (ndL n a)) : w.rangeAt b o (ndLL n a) := h
/-- A tree that is looked at. -/
def smallT (t : List Nd) : Bool := decide (t.length ≤ 40) && t.all fun n => smallB n.x n.u
theorem smallT_iff {t : List Nd} : smallT t = true ↔ t.length ≤ 40 ∧ ∀ j (h : j < t.length), smallB t[j].x t[j].u = true := by
  unfold smallT
  rw [Bool.and_eq_true, decide_eq_true_iff, List.all_eq_true]
  exact ⟨fun h => ⟨h.1, fun j hj => h.2 _ (List.getElem_mem hj)⟩, fun h => ⟨h.1, fun n hn => by obtain ⟨j, hj, rfl⟩ := List.getElem_of_mem hn; exact h.2 j hj⟩⟩
set_option maxRecDepth 100000 in
set_option maxHeartbeats 2000000 in
theorem Small17_any (A : Option Addr) (t : List Nd) (ad : List NA) (c : Nat) (w : World) (hA : TrIn w w.heap.size A t ad) : Calls Try.prog 9 #[.slice A t.length c] w (RetB w (smallT t)) := by
  by_cases hl : t.length ≤ 40
  · have hli : ¬ (40 : Int) < (t.length : Int) := by omega
    have HA := hid hA; have HL := hid hl
    clear hA hl
    go_enter Try.func9, Try.ntmps9
    go_wp2
    go_loopg [3] t.length (fun r i wr => ∃ k : Nat, k + r = t.length ∧ i = .int .i64 (k : Int) ∧ (∀ j n, j < k → t[j]? = some n → smallB n.x n.u = true) ∧ Below w.heap.size w wr)
    case atStart => exact ⟨0, by omega, rfl, fun j n hj => by omega, Below.refl _ _⟩
    case round =>
      obtain ⟨k, hk, rfl, hno, hb⟩ := hrel
      have HK := hid hk; have HNO := hid hno; have HB := hid hb
      have hw1 : wrap64 ((k : Int) + 1) = (k : Int) + 1 := wrap64_in (by omega) (by have := HL.out; omega)
      clear hk hno hb
      by_cases hlt : k < t.length
      · obtain ⟨b, o, n, a, rfl, hbl, hn, -, -, hr⟩ := (HA.out.on HB.out).at_ hlt
        have hx : (k : Int) < (t.length : Int) := by omega
        have h0 : (0 : Int) ≤ (k : Int) := by omega
        have HR := hid (rng_ll hr)
        have HN := hid hn; have HLT := hid hlt
        have HS : Hid (∀ W, Calls Try.prog 32 #[.agg (ndW n a)] W (RetB W (smallB n.x n.u))) := hid fun W => Small16_any n.k n.x a.l n.u a.p W
        obtain ⟨q, hq⟩ : ∃ q, q = smallB n.x n.u := ⟨_, rfl⟩
        rw [← hq] at HS
        have HQ := hid hq
        clear hn hr hlt hq
        go_wp2_with (with_reducible refine wpList_load_mid rfl NdT (.tmp 15) rfl b (o + k * 10) rfl (ndLL n a) _ HR.out Try.underlying38 rfl infoNd16 ?_)
        refine (HS.out _).mono ?_
        rintro e w2 ⟨rfl, hb⟩
        have HB2 := hid (HB.out.trans (hb.mono HB.out.size))
        clear hb HB HR HS
        cases q with
        | false =>
          have HF : Hid (smallT t = false) := hid (by
            rw [Bool.eq_false_iff]
            intro h
            have h2 := (smallT_iff.1 h).2 k HLT.out
            have h3 := HN.out
            rw [List.getElem?_eq_getElem HLT.out] at h3
            rw [Option.some.inj h3, ← HQ.out] at h2
            cases h2)
          go_wp2
          go_ret
          exact ⟨by rw [HF.out]; rfl, HB2.out⟩
        | true =>
          go_wp2
          have hk := HK.out; have hlt := HLT.out
          go_roundg (t.length - (k + 1))
          case measure => clear hw1; omega
          case rel => exact ⟨k + 1, by clear hw1; omega, by first | rfl | (rw [hw1]; rfl), fun j n2 hj hn2 => by
            rcases Nat.lt_or_ge j k with h1 | h1
            · exact HNO.out j n2 h1 hn2
            · obtain rfl : j = k := by clear hw1; omega
              rw [HN.out] at hn2
              rw [← Option.some.inj hn2]; exact HQ.out.symm, HB2.out⟩
      · have hge : ¬ (k : Int) < (t.length : Int) := by omega
        have HT : Hid (smallT t = true) := hid (smallT_iff.2 ⟨HL.out, fun j hj => HNO.out j t[j] (by have := HK.out; omega) (List.getElem?_eq_getElem hj)⟩)
        clear hlt
        go_wp2
        go_ret
        exact ⟨by rw [HT.out]; rfl, HB.out⟩
  · have hli : (40 : Int) < (t.length : Int) := by omega
    have HF : Hid (smallT t = false) := hid (by
      rw [Bool.eq_false_iff]
      intro h
      exact hl (smallT_iff.1 h).1)
    clear hl hA
    go_enter Try.func9, Try.ntmps9
    go_wp2
    go_ret
    exact ⟨by rw [HF.out]; rfl, Below.refl _ _⟩
end Go.Proofs.Ythooibljnfnnhaa
end
