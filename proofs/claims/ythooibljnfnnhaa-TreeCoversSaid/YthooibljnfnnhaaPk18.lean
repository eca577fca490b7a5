/-
  Texts of this claim in one file: Ref17a, Ref17b, Ref17c, Ref17d.
-/
import Derived.Test.YthooibljnfnnhaaPk12
import Derived.Test.YthooibljnfnnhaaPk5
import Derived.Test.YthooibljnfnnhaaPk2
import Derived.Test.YthooibljnfnnhaaPk15
section
namespace Go.Proofs.Ythooibljnfnnhaa
open Go Go.RowKit
set_option linter.unusedVariables false
set_option linter.unusedSimpArgs false
/-- The levels of a row of so many nodes. -/
def lvsK (L : Nat) : Option Nat := (List.range 17).find? fun K => decide (2 * 2 ^ K - 1 = L)
def lvsN (L : Nat) : Nat := match lvsK L with | some K => 2 ^ K | none => 0
theorem lvs_some {L K : Nat} (hK : K ≤ 16) (h : L = 2 * 2 ^ K - 1) : lvsK L = some K := by
  unfold lvsK
  rw [List.find?_range_eq_some]
  refine ⟨decide_eq_true h.symm, List.mem_range.2 (by omega), fun j hj => ?_⟩
  have := Nat.pow_lt_pow_right (show 1 < 2 by decide) hj
  simp only [Bool.not_eq_true', decide_eq_false_iff_not]
  have := Nat.two_pow_pos j
  omega
theorem lvs_sz {t : List Nd} {K : Nat} (h : Sz t K) : lvsK t.length = some K := lvs_some h.2 h.1
end Go.Proofs.Ythooibljnfnnhaa
end
section
namespace Go.Proofs.Ythooibljnfnnhaa
open Go Go.RowKit
set_option linter.unusedVariables false
set_option linter.unusedSimpArgs false
theorem in16 {x : Nat} (h : x ≤ 131070) : lv x ≤ 16 ∧ qt x < 2 ^ (16 - lv x) := (in_tree (x := x) (h := 16)).1 (by omega)
theorem under_und {x y : Nat} (hx : x ≤ 131070) (hy : y ≤ 131070) : underZ (y : Int) (x : Int) = decide (und y x) := by
  obtain ⟨x1, x2⟩ := in16 hx
  obtain ⟨y1, y2⟩ := in16 hy
  have h := underZ_nd y2 (show lv y + (16 - lv y) = 16 by omega) x2 (show lv x + (16 - lv x) = 16 by omega)
  rw [nd_of, nd_of] at h
  rw [h, Bool.eq_iff_iff, und_iff, decide_eq_true_iff]
  rfl
theorem under_bel {x i : Nat} (hx : x ≤ 131070) (hi : i ≤ 65535) : underZ ((2 * i : Nat) : Int) (x : Int) = decide (bel i x) := by
  rw [under_und hx (by omega), decide_eq_decide, ← nd_zero]
  unfold und bel
  rw [lv_nd, qt_nd, Nat.sub_zero]
  exact ⟨fun h => h.2, fun h => ⟨Nat.zero_le _, h⟩⟩
theorem Above17_any (x i : Nat) (w : World) (hx : x ≤ 131070) (hi : i ≤ 65535) : Calls Try.prog 29 #[.int .i64 (x : Int), .int .i64 (i : Int)] w (RetB w (decide (abv x i))) := by
  have HU : Hid (∀ W, Calls Try.prog 28 #[.int .i64 (2 * (i : Int)), .int .i64 (x : Int)] W (RetB W (decide (bel i x)))) := hid fun W => by
    have h := UnderR ((2 * i : Nat) : Int) (x : Int) W
    rw [under_bel hx hi] at h
    exact h
  have hw : wrap64 (2 * (i : Int)) = 2 * (i : Int) := wrap64_in (by omega) (by omega)
  by_cases he : x = 2 * i
  · have hei : ((x : Int) != 2 * (i : Int)) = false := by rw [bne_eq_false_iff_eq]; omega
    have HR : Hid (decide (abv x i) = false) := hid (decide_eq_false fun h => h.1 he)
    clear he
    go_enter Try.func29, Try.ntmps29
    go_wp2
    go_ret
    exact ⟨by rw [HR.out]; rfl, Below.refl _ _⟩
  · have hei : ((x : Int) != 2 * (i : Int)) = true := by rw [bne_iff_ne]; omega
    have HR : Hid (decide (abv x i) = decide (bel i x)) := hid (by rw [decide_eq_decide]; exact ⟨fun h => h.2, fun h => ⟨he, h⟩⟩)
    obtain ⟨q, hq⟩ : ∃ q, q = decide (bel i x) := ⟨_, rfl⟩
    rw [← hq] at HU HR
    clear he hq
    go_enter Try.func29, Try.ntmps29
    go_wp2_with fail
    refine (HU.out _).mono ?_
    rintro e w1 ⟨rfl, hb⟩
    have HB := hid hb
    clear hb
    cases q with
    | false =>
      go_wp2
      go_ret
      exact ⟨by rw [HR.out]; rfl, HB.out⟩
    | true =>
      go_wp2
      go_ret
      exact ⟨by rw [HR.out]; rfl, HB.out⟩
end Go.Proofs.Ythooibljnfnnhaa
end
section
namespace Go.Proofs.Ythooibljnfnnhaa
open Go Go.RowKit
set_option linter.unusedVariables false
set_option linter.unusedSimpArgs false
theorem memT_len (t : List Nd) (n : Nat) : (memT t n).length ≤ n := by unfold memT; exact Nat.le_trans (List.length_filter_le _ _) (by simp)
/-- Below, above a number, as far as looked at. -/
theorem filter_step (p : Int → Bool) (l : List Int) (k : Nat) (h : k < l.length) : (l.take (k + 1)).filter p = (l.take k).filter p ++ if p l[k] = true then [l[k]] else [] := by
  rw [List.take_succ_eq_append_getElem h, List.filter_append, List.filter_cons]
  split <;> simp_all
theorem filter_take_len (p : Int → Bool) (l : List Int) (k : Nat) : ((l.take k).filter p).length ≤ k := Nat.le_trans (List.length_filter_le _ _) (by rw [List.length_take]; exact Nat.min_le_left _ _)
end Go.Proofs.Ythooibljnfnnhaa
end
section
namespace Go.Proofs.Ythooibljnfnnhaa
open Go Go.RowKit
set_option linter.unusedVariables false
set_option linter.unusedSimpArgs false
abbrev ndLL (n : Nd) (a : NA) : List Value := [.int .u8 (n.k : Int), .slice a.l.a0 n.x.box.length a.l.c0, .slice a.l.a1 n.x.sign.length a.l.c1, .slice a.l.a2 n.x.ident.length a.l.c2, .int .u8 (n.x.src : Int), .slice a.l.a3 n.x.par.length a.l.c3, .slice a.l.a4 n.x.sig.length a.l.c4, .slice a.p.a0 n.u.box.length a.p.c0, .slice a.p.a1 n.u.hash.length a.p.c1, .slice a.p.a2 n.u.late.length a.p.c2]
theorem rng_ll {w : World} {b o : Nat} {n : Nd} {a : NA} (h : w.rangeAt b o (ndL n a)) : w.rangeAt b o (ndLL n a) := h
/-- A tree that is looked at. -/
def smallT (t : List Nd) : Bool := decide (t.length ≤ 40) && t.all fun n => smallB n.x n.u
theorem smallT_iff {t : List Nd} : smallT t = true ↔ t.length ≤ 40 ∧ ∀ j (h : j < t.length), smallB t[j].x t[j].u = true := by
  unfold smallT
  rw [Bool.and_eq_true, decide_eq_true_iff, List.all_eq_true]
  exact ⟨fun h => ⟨h.1, fun j hj => h.2 _ (List.getElem_mem hj)⟩, fun h => ⟨h.1, fun n hn => by obtain ⟨j, hj, rfl⟩ := List.getElem_of_mem hn; exact h.2 j hj⟩⟩
set_option maxRecDepth 100000 in
set_option maxHeartbeats 2000000 in
theorem Small17_any (A : Option Addr) (t : List Nd) (ad : List NA) (c : Nat) (w : World) (hA : TrIn w w.heap.size A t ad) : Calls Try.prog 9 #[.slice A t.length c] w (RetB w (smallT t)) := by
  by_cases hl : t.length ≤ 40
  · have hli : ¬ (40 : Int) < (t.length : Int) := by omega
    have HA := hid hA; have HL := hid hl
    clear hA hl
    go_enter Try.func9, Try.ntmps9
    go_wp2
    go_loopg [3] t.length (fun r i wr => ∃ k : Nat, k + r = t.length ∧ i = .int .i64 (k : Int) ∧ (∀ j n, j < k → t[j]? = some n → smallB n.x n.u = true) ∧ Below w.heap.size w wr)
    case atStart => exact ⟨0, by omega, rfl, fun j n hj => by omega, Below.refl _ _⟩
    case round =>
      obtain ⟨k, hk, rfl, hno, hb⟩ := hrel
      have HK := hid hk; have HNO := hid hno; have HB := hid hb
      have hw1 : wrap64 ((k : Int) + 1) = (k : Int) + 1 := wrap64_in (by omega) (by have := HL.out; omega)
      clear hk hno hb
      by_cases hlt : k < t.length
      · obtain ⟨b, o, n, a, rfl, hbl, hn, -, -, hr⟩ := (HA.out.on HB.out).at_ hlt
        have hx : (k : Int) < (t.length : Int) := by omega
        have h0 : (0 : Int) ≤ (k : Int) := by omega
        have HR := hid (rng_ll hr)
        have HN := hid hn; have HLT := hid hlt
        have HS : Hid (∀ W, Calls Try.prog 32 #[.agg (ndW n a)] W (RetB W (smallB n.x n.u))) := hid fun W => Small16_any n.k n.x a.l n.u a.p W
        obtain ⟨q, hq⟩ : ∃ q, q = smallB n.x n.u := ⟨_, rfl⟩
        rw [← hq] at HS
        have HQ := hid hq
        clear hn hr hlt hq
        go_wp2_with (with_reducible refine wpList_load_mid rfl NdT (.tmp 15) rfl b (o + k * 10) rfl (ndLL n a) _ HR.out Try.underlying38 rfl infoNd16 ?_)
        refine (HS.out _).mono ?_
        rintro e w2 ⟨rfl, hb⟩
        have HB2 := hid (HB.out.trans (hb.mono HB.out.size))
        clear hb HB HR HS
        cases q with
        | false =>
          have HF : Hid (smallT t = false) := hid (by
            rw [Bool.eq_false_iff]
            intro h
            have h2 := (smallT_iff.1 h).2 k HLT.out
            have h3 := HN.out
            rw [List.getElem?_eq_getElem HLT.out] at h3
            rw [Option.some.inj h3, ← HQ.out] at h2
            cases h2)
          go_wp2
          go_ret
          exact ⟨by rw [HF.out]; rfl, HB2.out⟩
        | true =>
          go_wp2
          have hk := HK.out; have hlt := HLT.out
          go_roundg (t.length - (k + 1))
          case measure => clear hw1; omega
          case rel => exact ⟨k + 1, by clear hw1; omega, by first | rfl | (rw [hw1]; rfl), fun j n2 hj hn2 => by
            rcases Nat.lt_or_ge j k with h1 | h1
            · exact HNO.out j n2 h1 hn2
            · obtain rfl : j = k := by clear hw1; omega
              rw [HN.out] at hn2
              rw [← Option.some.inj hn2]; exact HQ.out.symm, HB2.out⟩
      · have hge : ¬ (k : Int) < (t.length : Int) := by omega
        have HT : Hid (smallT t = true) := hid (smallT_iff.2 ⟨HL.out, fun j hj => HNO.out j t[j] (by have := HK.out; omega) (List.getElem?_eq_getElem hj)⟩)
        clear hlt
        go_wp2
        go_ret
        exact ⟨by rw [HT.out]; rfl, HB.out⟩
  · have hli : (40 : Int) < (t.length : Int) := by omega
    have HF : Hid (smallT t = false) := hid (by
      rw [Bool.eq_false_iff]
      intro h
      exact hl (smallT_iff.1 h).1)
    clear hl hA
    go_enter Try.func9, Try.ntmps9
    go_wp2
    go_ret
    exact ⟨by rw [HF.out]; rfl, Below.refl _ _⟩
end Go.Proofs.Ythooibljnfnnhaa
end
