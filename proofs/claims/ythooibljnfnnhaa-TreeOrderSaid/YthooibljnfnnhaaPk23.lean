/-
  Texts of this claim in one file: Law17e, Law17h.
-/
import Derived.Test.YthooibljnfnnhaaPk22
import Derived.Test.YthooibljnfnnhaaPk0
import Derived.Test.YthooibljnfnnhaaPk21
section
namespace Go.Proofs.Ythooibljnfnnhaa
open Go Go.RowKit
set_option linter.unusedVariables false
set_option linter.unusedSimpArgs false
theorem half_ord {L P : Nat} (hL : L = 2 * P - 1) (hp : 0 < P) : Int.tdiv ((L : Int) + 1) 2 = (P : Int) := by
  rw [Int.tdiv_eq_ediv_of_nonneg (by omega)]
  omega
theorem ord_f1 {i N L : Nat} (hL : L = 2 * N - 1) (h : i + 1 + 1 ≤ N) (h2 : N < 2 * (i + 1 + 1)) (h3 : N ≤ 65536) : wrap64 ((L : Int) + 1) = (L : Int) + 1 ∧ wrap64 (N : Int) = (N : Int) ∧ wrap64 ((i : Int) + 2) = (i : Int) + 2 ∧ wrap64 (2 * ((i : Int) + 2)) = 2 * ((i : Int) + 2) ∧ wrap64 ((i : Int) + 1) = (i : Int) + 1 :=
  ⟨wrap_1e (by omega) (by omega), wrap_1e (by omega) (by omega), wrap_1e (by omega) (by omega), wrap_1e (by omega) (by omega), wrap_1e (by omega) (by omega)⟩
theorem ord_f2 {i N : Nat} (h : i + 1 + 1 ≤ N) (h2 : N < 2 * (i + 1 + 1)) : ¬ (N : Int) < (i : Int) + 2 ∧ ¬ 2 * ((i : Int) + 2) ≤ (N : Int) := by omega
theorem ord_f3 {m N L : Nat} (hL : L = 2 * N - 1) (h : m ≤ N) (h3 : N ≤ 65536) (h4 : m ≤ 20) : wrap64 ((L : Int) + 1) = (L : Int) + 1 ∧ wrap64 (N : Int) = (N : Int) ∧ wrap64 (2 * (m : Int)) = 2 * (m : Int) ∧ wrap64 ((m : Int) - 1) = (m : Int) - 1 :=
  ⟨wrap_1e (by omega) (by omega), wrap_1e (by omega) (by omega), wrap_1e (by omega) (by omega), wrap_1e (by omega) (by omega)⟩
theorem ord_dec {m : Nat} (h : 0 < m) (hw : wrap64 ((m : Int) - 1) = (m : Int) - 1) : Value.int .i64 (wrap64 ((m : Int) - 1)) = Value.int .i64 ((m - 1 : Nat) : Int) := by rw [hw]; congr 1; omega
theorem ord_dec2 {m : Nat} (h : 0 < m) : Value.int .i64 ((m : Int) - 1) = Value.int .i64 ((m - 1 : Nat) : Int) := by congr 1; omega
theorem ord_dec3 {m : Nat} (h : 0 < m) : m - 1 + 1 = m := by omega
theorem ord_dec4 {m : Nat} (h : m ≤ 20) : m - 1 ≤ 20 := by omega
theorem ord_f4 {m N : Nat} (h : m ≤ N) (h2 : N < 2 * m) : ¬ (N : Int) < (m : Int) ∧ ¬ 2 * (m : Int) ≤ (N : Int) := by omega
set_option maxRecDepth 100000 in
set_option maxHeartbeats 16000000 in
theorem treeOrder_any (A : Option Addr) (ls : List Lf) (ad : List LA) (c : Nat) (w : World) (hA : LsQ w w.heap.size A c ls ad) (hr : ∀ x ∈ ls, x.src < 256) : Calls Try.prog 7 #[.slice A ls.length c] w (RetB w true) := by
  have HAl := hid alive17
  by_cases hl : ls.length ≤ 20
  · have hli : ¬ (20 : Int) < (ls.length : Int) := by omega
    have hli' : decide ((20 : Int) < (ls.length : Int)) = false := decide_eq_false hli
    have HL := hid hl; have HA := hid hA; have HR := hid hr
    have HOne := hid one_e
    have HRl : Hid (∀ (x : Lf) (a : LA) (W : World), x.src < 256 → Calls Try.prog 20 #[.agg (lfV x a)] W (RetB W (leafB x))) := hid fun x a W h => RightLeaf16_any x a W h
    clear hl hA hr
    go_enter Try.func7, Try.ntmps7
    go_wp2_with fail
    refine (HAl.out w).mono ?_
    rintro e w1 ⟨rfl, hb⟩
    have HB1 := hid hb
    clear hb HAl
    go_wp2_with fail
    refine (HOne.out w1).mono ?_
    rintro e w2 ⟨TA, rfl, ⟨tad, hq⟩, hb⟩
    have HB2 := hid (HB1.out.trans (hb.mono HB1.out.size))
    have HQ2 := hid hq
    have HLS2 := hid (HA.out.up HB2.out)
    clear hb hq HB1 hli hli'
    go_wp2
    go_loopg [3, 4] ls.length (fun rr tv iv wr => ∃ (t : List Nd) (K : Nat) (TA : Option Addr) (tc : Nat) (tad : List NA) (i : Nat), i + rr = ls.length ∧ iv = .int .i64 (i : Int) ∧ tv = .slice TA t.length tc ∧ Pref t (i + 1) K ∧ nAt t 0 = oneN ∧ TrM t ∧ TrQ wr wr.heap.size TA tc t tad ∧ Below w.heap.size w wr)
    case atStart => exact ⟨[oneN], 0, TA, 1, tad, 0, by omega, rfl, rfl, one_pref, rfl, one_m, HQ2.out, HB2.out⟩
    case round =>
      clear HQ2 HB2 HLS2
      obtain ⟨t, K, TA, tc, tad, i, hi, rfl, rfl, hp, h0, hm, hq, hb⟩ := hrel
      have HI := hid hi; have HP := hid hp; have HZ := hid h0; have HM := hid hm; have HQ := hid hq; have HB := hid hb
      have hLS := HA.out.up hb
      clear hi hp h0 hm hq hb
      by_cases hlt : i < ls.length
      · obtain ⟨lb, lo, la, rfl, hlb, hlf, hrg⟩ := hLS.at_ hlt
        have hil : (i : Int) < (ls.length : Int) := by omega
        have hi0 : (0 : Int) ≤ (i : Int) := by omega
        obtain ⟨x, hx⟩ : ∃ x, x = ls[i]'hlt := ⟨_, rfl⟩
        rw [← hx] at hlf hrg
        have hsx : x.src < 256 := HR.out x (by rw [hx]; exact List.getElem_mem hlt)
        have HG : Hid (∀ W, Below wr.heap.size wr W → W.rangeAt lb (lo + i * 6) (lfLL x la)) := hid fun W hbW k u hu => (hbW.cell (p := ⟨lb, lo + i * 6 + k, none⟩) hlb).trans (hrg k u hu)
        have HLf : Hid (LfIn wr x la) := hid hlf
        have HRx := hid (HRl.out x la wr hsx)
        have HG1 := hid (HG.out wr (Below.refl _ _))
        have HSX := hid hsx
        clear hx hlf hrg hlb hLS hlt hsx
        go_wp2_with (with_reducible refine wpList_load_mid rfl LfT (.tmp 27) rfl lb (lo + i * 6) rfl (lfLL x la) _ HG1.out Try.underlying27 rfl infoLf ?_)
        refine HRx.out.mono ?_
        rintro e w3 ⟨rfl, hb⟩
        have HB3 := hid (HB.out.trans (hb.mono HB.out.size))
        have HQ3 := hid (HQ.out.up hb)
        have HG3 := hid (HG.out w3 hb)
        have HL3 := hid (HLf.out.on hb)
        clear hb HRx HG HG1 HB HQ HLf
        by_cases hlb : leafB x = true
        · rw [hlb]
          obtain ⟨a1, a2, ⟨K', hp'⟩, a4, a5⟩ := ord_add HP.out HZ.out HM.out hlb (by have := HL.out; have := HI.out; omega)
          obtain ⟨n1, n2, n3, n4, n5⟩ := ord_n hp'
          have hAd := tree_add TA t tad tc x la w3 HQ3.out HM.out HL3.out (lfB_200 hlb)
          rw [a1, a2, Int.natCast_add, Int.natCast_one] at hAd
          have HAd := hid hAd
          obtain ⟨U, hU⟩ : ∃ U, U = addR t x := ⟨_, rfl⟩
          rw [← hU] at hp' a4 a5 n1 HAd
          obtain ⟨N, hN⟩ : ∃ N, N = 2 ^ K' := ⟨_, rfl⟩
          rw [← hN] at n1 n2 n3 n4 n5
          have HP' := hid hp'; have HZ' := hid a4; have HM' := hid a5
          obtain ⟨hn1, hn2⟩ := ord_f2 n2 n3
          have hf := ord_f1 n1 n2 n3 n4
          have hdu : Int.tdiv ((U.length : Int) + 1) 2 = (N : Int) := half_ord n1 n5
          have hn1' : decide ((N : Int) < (i : Int) + 2) = false := decide_eq_false hn1
          have hn2' : decide (2 * ((i : Int) + 2) ≤ (N : Int)) = false := decide_eq_false hn2
          have hie : (((i : Int) + 1) != ((i : Int) + 1)) = false := by simp
          clear hlb a1 a2 hp' a4 a5 hAd hU hN n1 n2 n3 n4 n5 HP HZ HM
          obtain ⟨hwu, hwn, hw2, hw4, hwi⟩ := hf
          go_wp2_with (with_reducible refine wpList_load_mid rfl LfT (.tmp 35) rfl lb (lo + i * 6) rfl (lfLL x la) _ HG3.out Try.underlying27 rfl infoLf ?_)
          refine HAd.out.mono ?_
          rintro e w4 ⟨UA, uc, rfl, ⟨uad, hq⟩, hb⟩
          have HB4 := hid (HB3.out.trans (hb.mono HB3.out.size))
          have HQ4 := hid hq
          clear hb hq HAd HB3 HQ3 HG3 HL3
          go_wp2
          have hi := HI.out; have hlt : i < ls.length := by omega
          go_roundg (ls.length - (i + 1))
          case measure => clear hwi hwu hdu hwn hw2 hw4 hn1 hn1' hn2 hn2' hie; omega
          case rel => exact ⟨U, K', UA, uc, uad, i + 1, by clear hwi hwu hdu hwn hw2 hw4 hn1 hn1' hn2 hn2' hie; omega, by first | rfl | (rw [hwi]; rfl), rfl, HP'.out, HZ'.out, HM'.out, HQ4.out, HB4.out⟩
        · rw [show leafB x = false by simpa using hlb]
          clear hlb HG3 HQ3 HL3 HP HZ HM
          go_wp2
          go_ret
          exact ⟨rfl, HB3.out⟩
      · have hge : ¬ (i : Int) < (ls.length : Int) := by omega
        have hie : i = ls.length := by have := HI.out; omega
        rw [hie] at HP
        clear hlt hLS
        go_wp2
        go_loopg [3, 9] ls.length (fun rr tv iv wq => ∃ (t : List Nd) (K : Nat) (TA : Option Addr) (tc : Nat) (tad : List NA), iv = .int .i64 (rr : Int) ∧ tv = .slice TA t.length tc ∧ Pref t (rr + 1) K ∧ rr ≤ 20 ∧ nAt t 0 = oneN ∧ TrM t ∧ TrQ wq wq.heap.size TA tc t tad ∧ Below w.heap.size w wq)
        case atStart => exact ⟨t, K, TA, tc, tad, rfl, rfl, HP.out, HL.out, HZ.out, HM.out, HQ.out, HB.out⟩
        case round =>
          clear HP HZ HM HQ HB
          obtain ⟨t, K, TA, tc, tad, rfl, rfl, hp, hi20, h0, hm, hq, hb⟩ := hrel
          have HP := hid hp; have HZ := hid h0; have HM := hid hm; have HQ := hid hq; have HB := hid hb; have H20 := hid hi20
          clear hp h0 hm hq hb hi20
          by_cases hlt : 0 < gk
          · have hil : (0 : Int) < (gk : Int) := by omega
            obtain ⟨a1, ⟨K', hp'⟩, a4, a5⟩ := ord_rem HP.out HZ.out HM.out hlt
            obtain ⟨n1, n2, n3, n4, n5⟩ := ord_n hp'
            have hRe := tree_remove TA t tad tc (gk : Int) wr HQ.out HM.out
            rw [a1] at hRe
            have HRe := hid hRe
            obtain ⟨U, hU⟩ : ∃ U, U = remR t (gk : Int) := ⟨_, rfl⟩
            rw [← hU] at hp' a4 a5 n1 HRe
            obtain ⟨N, hN⟩ : ∃ N, N = 2 ^ K' := ⟨_, rfl⟩
            rw [← hN] at n1 n2 n3 n4 n5
            have HP' := hid hp'; have HZ' := hid a4; have HM' := hid a5
            obtain ⟨hn1, hn2⟩ := ord_f4 n2 n3
            have hf := ord_f3 n1 n2 n4 H20.out
            have hdu : Int.tdiv ((U.length : Int) + 1) 2 = (N : Int) := half_ord n1 n5
            have hn1' : decide ((N : Int) < (gk : Int)) = false := decide_eq_false hn1
            have hn2' : decide (2 * (gk : Int) ≤ (N : Int)) = false := decide_eq_false hn2
            have HLT := hid hlt
            clear hlt a1 hp' a4 a5 hRe hU hN n1 n2 n3 n4 n5 HP HZ HM
            obtain ⟨hwu, hwn, hw4, hw1⟩ := hf
            go_wp2_with fail
            refine HRe.out.mono ?_
            rintro e w4 ⟨UA, uc, rfl, ⟨uad, hq⟩, hb⟩
            have HB4 := hid (HB.out.trans (hb.mono HB.out.size))
            have HQ4 := hid hq
            clear hb hq HRe HB HQ
            go_wp2
            have hlt := HLT.out; have h20 := H20.out
            go_roundg (gk - 1)
            case measure => clear hwu hdu hwn hw4 hw1 hn1 hn1' hn2 hn2'; omega
            case rel => exact ⟨U, K', UA, uc, uad, by first | exact ord_dec hlt hw1 | exact ord_dec2 hlt, rfl, by rw [ord_dec3 hlt]; exact HP'.out, ord_dec4 h20, HZ'.out, HM'.out, HQ4.out, HB4.out⟩
          · have hge : ¬ (0 : Int) < (gk : Int) := by omega
            have h00 : gk = 0 := by omega
            have HT : Hid (t = [oneN]) := hid (by
              have h := HP.out
              rw [h00] at h
              exact ord_end h HZ.out)
            have HO1 := hid (HOne.out wr)
            clear hlt
            go_wp2_with fail
            refine HO1.out.mono ?_
            rintro e w5 ⟨OA, rfl, ⟨oad, hq⟩, hb⟩
            have HB5 := hid (HB.out.trans (hb.mono HB.out.size))
            have HS := hid (tree_same TA t tad tc OA [oneN] oad 1 w5 (HQ.out.up hb).tr hq.tr HM.out one_m)
            rw [HT.out, sameT_refl, show [oneN].length = 1 from rfl] at HS
            have hl1 : t.length = 1 := by rw [HT.out]; rfl
            rw [hl1]
            clear hb hq HO1 HB HQ HP HZ HM
            go_wp2_with fail
            refine HS.out.mono ?_
            rintro e w6 ⟨rfl, hb⟩
            have HB6 := hid (HB5.out.trans (hb.mono HB5.out.size))
            clear hb HS
            go_wp2
            go_ret
            exact ⟨rfl, HB6.out⟩
  · have hli : (20 : Int) < (ls.length : Int) := by omega
    have hli' : decide ((20 : Int) < (ls.length : Int)) = true := decide_eq_true hli
    clear hl hA hr
    go_enter Try.func7, Try.ntmps7
    go_wp2_with fail
    refine (HAl.out w).mono ?_
    rintro e w1 ⟨rfl, hb⟩
    have HB1 := hid hb
    clear hb HAl
    go_wp2
    go_ret
    exact ⟨rfl, HB1.out⟩
end Go.Proofs.Ythooibljnfnnhaa
end
section
namespace Go.Proofs.Ythooibljnfnnhaa
open Go Go.RowKit
set_option linter.unusedVariables false
set_option linter.unusedSimpArgs false
theorem treeOrder_law (A : Option Addr) (ls : List Lf) (ad : List LA) (c : Nat) (w : World) (hA : LsQ w w.heap.size A c ls ad) (hr : ∀ x ∈ ls, x.src < 256) :
    Calls Try.prog 7 #[.slice A ls.length c] w fun e w' => e = .returned (.bool true) ∧ Below w.heap.size w w' :=
  treeOrder_any A ls ad c w hA hr
end Go.Proofs.Ythooibljnfnnhaa
end
