/-
  Texts of this claim in one file: Ref17g.
-/
import Derived.Test.YthooibljnfnnhaaPk20
import Derived.Test.YthooibljnfnnhaaPk7
import Derived.Test.YthooibljnfnnhaaPk18
section
namespace Go.Proofs.Ythooibljnfnnhaa
open Go Go.RowKit
set_option linter.unusedVariables false
set_option linter.unusedSimpArgs false
/-- Whether a member stands in the right half, so far. -/
def smB (t : List Nd) (N k : Nat) : Bool := (List.range k).any fun j => decide ((nAt t j).k = 1) && (decide (N = 1) || decide (N ≤ j))
theorem smB_succ (t : List Nd) (N k : Nat) : smB t N (k + 1) = (smB t N k || (decide ((nAt t k).k = 1) && (decide (N = 1) || decide (N ≤ k)))) := by
  unfold smB
  rw [List.range_succ, List.any_append]
  simp
theorem smB_iff (t : List Nd) {K N : Nat} (hN : N = 2 ^ K) (L : Nat) : smB t N L = true ↔ ∃ x, x < L ∧ (nAt t x).k = 1 ∧ (K = 0 ∨ 2 ^ K ≤ x) := by
  unfold smB
  rw [List.any_eq_true]
  subst hN
  have h1 : (2 ^ K = 1) ↔ K = 0 := by
    constructor
    · intro h
      rcases K with _ | K
      · rfl
      · rw [Nat.pow_succ] at h; have := Nat.two_pow_pos K; omega
    · intro h; subst h; rfl
  constructor
  · rintro ⟨x, hx, h⟩
    simp only [Bool.and_eq_true, Bool.or_eq_true, decide_eq_true_eq] at h
    exact ⟨x, List.mem_range.1 hx, h.1, h.2.imp h1.1 id⟩
  · rintro ⟨x, hx, hk, h⟩
    exact ⟨x, List.mem_range.2 hx, by simp only [Bool.and_eq_true, Bool.or_eq_true, decide_eq_true_eq]; exact ⟨hk, h.imp h1.2 id⟩⟩
/-- A late member's place stands as it may. -/
def LtOk17 (t : List Nd) (K x : Nat) (l : Int) : Prop := ∃ i : Nat, l = (i : Int) ∧ i < 2 ^ K ∧ (nAt t (2 * i)).k = 1 ∧ bel i x ∧ ∀ y, y < t.length → (nAt t y).k = 2 → bel i y → und y x → l ∈ (nAt t y).u.late
def OkN17 (t : List Nd) (x : Nat) : Prop := rightB (nAt t x).k (nAt t x).x (nAt t x).u = true ∧ (x % 2 = 0 → (nAt t x).k ≠ 2) ∧ (x % 2 = 1 → (nAt t x).k ≠ 1)
theorem late_rng {t : List Nd} {x : Nat} (h : rightB (nAt t x).k (nAt t x).x (nAt t x).u = true) : ∀ v ∈ (nAt t x).u.late, 0 ≤ v ∧ v ≤ 65535 := by
  unfold rightB at h
  split at h
  · rw [Bool.and_eq_true] at h; rw [empty_pr h.2]; intro v hv; cases hv
  · split at h
    · rw [Bool.and_eq_true] at h; rw [empty_pr h.2]; intro v hv; cases hv
    · split at h
      · rw [Bool.and_eq_true] at h
        have h5 := h.1
        unfold parB at h5
        simp only [Bool.and_eq_true] at h5
        exact ((rise_iff _).1 h5.1).2
      · cases h
theorem wrap_2e {z : Int} (h1 : -2000000000000000000 ≤ z) (h2 : z ≤ 2000000000000000000) : wrap64 z = z := by unfold wrap64; omega
theorem tmod2 (k : Nat) : Int.tmod (k : Int) 2 = ((k % 2 : Nat) : Int) := by rw [Int.tmod_eq_emod_of_nonneg (by omega)]; omega
set_option maxRecDepth 100000 in
set_option maxHeartbeats 16000000 in
theorem Right17_any (A : Option Addr) (t : List Nd) (ad : List NA) (c : Nat) (w : World) (hA : TrIn w w.heap.size A t ad) (hm : TrM t) : Calls Try.prog 10 #[.slice A t.length c] w (RetB w (rgt t)) := by
  have HLv := hid (Leaves17_any A t.length c w (by have := hm.1; omega))
  rcases @lvs_cases t.length with ⟨K, hK, hl, hn⟩ | ⟨hn, hno⟩
  · have hz : Sz t K := ⟨hl, hK⟩
    rw [hn] at HLv
    have HNO : Hid (¬ Rt t K → rgt t = false) := hid fun h => rgt_no fun K' h' => h (by rw [sz_one hz h'.size]; exact h')
    have HYES : Hid (Rt t K → rgt t = true) := hid rgt_yes
    obtain ⟨r, hr⟩ : ∃ r, r = rgt t := ⟨_, rfl⟩
    rw [← hr] at HNO HYES ⊢
    have HZ := hid hz; have HA := hid hA; have HM := hid hm
    have hpp := Nat.two_pow_pos K
    have hp16 := pow_le16 hK
    obtain ⟨N, hN⟩ : ∃ N, N = 2 ^ K := ⟨_, rfl⟩
    rw [← hN] at HLv hl hpp hp16
    have HL : Hid (t.length = 2 * N - 1) := hid hl
    have HN1 : Hid (0 < N ∧ N ≤ 65536) := hid ⟨hpp, hp16⟩
    have hn0 : ((N : Int) == 0) = false := by rw [beq_eq_false_iff_ne]; omega
    have HKN : Hid (N = 2 ^ K) := hid hN
    have HSM := hid (fun L => smB_iff t hN L)
    clear hr hz hA hm hn hl hpp hp16 hN hK
    go_enter Try.func10, Try.ntmps10
    go_wp2_with fail
    refine HLv.out.mono ?_
    rintro e w1 ⟨rfl, rfl⟩
    clear HLv
    go_wp2
    go_loopg [4, 5] t.length (fun rr sv xv wr => ∃ k : Nat, k + rr = t.length ∧ xv = .int .i64 (k : Int) ∧ sv = .bool (smB t N k) ∧ (∀ x, x < k → OkN17 t x) ∧ Below w1.heap.size w1 wr)
    case atStart => exact ⟨0, by omega, rfl, rfl, fun x hx => absurd hx (Nat.not_lt_zero _), Below.refl _ _⟩
    case round =>
      clear hn0
      obtain ⟨k, hk, rfl, rfl, hok, hb⟩ := hrel
      have HK := hid hk; have HOK := hid hok; have HB := hid hb
      clear hk hok hb
      obtain ⟨s, hs⟩ : ∃ s, s = smB t N k := ⟨_, rfl⟩
      rw [← hs]
      by_cases hlt : k < t.length
      · obtain ⟨b, o, n, a, rfl, hbl, hnn, hne, hni, hrg⟩ := (HA.out.up HB.out).at_ hlt
        have hmm := HM.out.2 k n hnn
        have HRT := hid (Right16_any n.k n.x a.l n.u a.p wr hni.1 hni.2 (lfM_le hmm.1) (prM_le hmm.2.1))
        have hkc := kind_at hrg
        have HR := hid (rng_ll hrg)
        have HLT := hid hlt
        have hx : (k : Int) < (t.length : Int) := by omega
        have h0 : (0 : Int) ≤ (k : Int) := by omega
        have HSV : Hid (smB t N (k + 1) = (s || (decide (n.k = 1) && (decide (N = 1) || decide (N ≤ k))))) := hid (by rw [smB_succ, ← hs, hne])
        have HWK : Hid (wrap64 ((k : Int) + 1) = (k : Int) + 1) := hid (wrap_2e (by omega) (by have := HM.out.1; omega))
        obtain ⟨q, hq⟩ : ∃ q, q = rightB n.k n.x n.u := ⟨_, rfl⟩
        rw [← hq] at HRT
        rw [hne] at hq
        have HQ := hid hq
        have HNE := hid hne
        clear hs hlt hbl hnn hne hni hrg hmm hq
        cases q with
        | false =>
          have HF : Hid (r = false) := hid (HNO.out fun h => by
            have := h.node k HLT.out
            rw [← HQ.out] at this; cases this)
          go_wp2_with (with_reducible refine wpList_load_mid rfl NdT (.tmp 28) rfl b (o + k * 10) rfl (ndLL n a) _ HR.out Try.underlying38 rfl infoNd16 ?_)
          refine HRT.out.mono ?_
          rintro e w3 ⟨rfl, hb⟩
          have HB3 := hid (HB.out.trans (hb.mono HB.out.size))
          clear hb HRT HR HB
          go_wp2
          go_ret
          exact ⟨by rw [HF.out]; rfl, HB3.out⟩
        | true =>
          have hkk : n.k = 0 ∨ n.k = 1 ∨ n.k = 2 := by
            have h := HQ.out
            rw [← HNE.out] at h
            unfold rightB at h
            by_cases h0 : n.k = 0
            · exact .inl h0
            · by_cases h1 : n.k = 1
              · exact .inr (.inl h1)
              · by_cases h2 : n.k = 2
                · exact .inr (.inr h2)
                · rw [if_neg h0, if_neg h1, if_neg h2] at h; cases h
          have hpar : k % 2 = 0 ∨ k % 2 = 1 := by omega
          have ht : Int.tmod (k : Int) 2 = ((k % 2 : Nat) : Int) := tmod2 k
          go_wp2_with (with_reducible refine wpList_load_mid rfl NdT (.tmp 28) rfl b (o + k * 10) rfl (ndLL n a) _ HR.out Try.underlying38 rfl infoNd16 ?_)
          refine HRT.out.mono ?_
          rintro e w3 ⟨rfl, hb⟩
          have HB3 := hid (HB.out.trans (hb.mono HB.out.size))
          clear hb HRT HR HB hkc
          rcases hpar with hpar | hpar
          · rw [hpar] at ht
            rcases hkk with hkk | hkk | hkk
            · have hk2 : ((n.k : Int) == 2) = false := by rw [hkk]; rfl
              have hk1 : ((n.k : Int) == 1) = false := by rw [hkk]; rfl
              have HK1 : Hid (¬ n.k = 1) := hid (by omega)
              have HOK2 : Hid (∀ x, x < k + 1 → OkN17 t x) := hid fun x hx => by
                rcases Nat.lt_or_ge x k with h1 | h1
                · exact HOK.out x h1
                · obtain rfl : x = k := by clear ht; omega
                  refine ⟨HQ.out.symm, fun h => ?_, fun h => ?_⟩ <;> rw [← HNE.out] <;> clear ht <;> omega
              clear hpar hkk
              cases s with
              | true =>
                have hwk := HWK.out
                go_wp2
                have hk := HK.out; have hlt := HLT.out
                go_roundg (t.length - (k + 1))
                case measure => clear hwk; omega
                case rel => exact ⟨k + 1, by clear hwk; omega, by first | rfl | (rw [hwk]; rfl), by rw [HSV.out]; simp [], HOK2.out, HB3.out⟩
              | false =>
                have hwk := HWK.out
                go_wp2
                have hk := HK.out; have hlt := HLT.out
                go_roundg (t.length - (k + 1))
                case measure => clear hwk; omega
                case rel => exact ⟨k + 1, by clear hwk; omega, by first | rfl | (rw [hwk]; rfl), by rw [HSV.out]; simp [HK1.out], HOK2.out, HB3.out⟩
            · have hk2 : ((n.k : Int) == 2) = false := by rw [hkk]; rfl
              have hk1 : ((n.k : Int) == 1) = true := by rw [hkk]; rfl
              have HK1 : Hid (n.k = 1) := hid (by omega)
              have HOK2 : Hid (∀ x, x < k + 1 → OkN17 t x) := hid fun x hx => by
                rcases Nat.lt_or_ge x k with h1 | h1
                · exact HOK.out x h1
                · obtain rfl : x = k := by clear ht; omega
                  refine ⟨HQ.out.symm, fun h => ?_, fun h => ?_⟩ <;> rw [← HNE.out] <;> clear ht <;> omega
              clear hpar hkk
              cases s with
              | true =>
                have hwk := HWK.out
                go_wp2
                have hk := HK.out; have hlt := HLT.out
                go_roundg (t.length - (k + 1))
                case measure => clear hwk; omega
                case rel => exact ⟨k + 1, by clear hwk; omega, by first | rfl | (rw [hwk]; rfl), by rw [HSV.out]; simp [], HOK2.out, HB3.out⟩
              | false =>
                by_cases hn1 : N = 1
                · have hni1 : ((N : Int) == 1) = true := by rw [beq_iff_eq]; omega
                  have HE1 := hid hn1
                  clear hn1
                  have hwk := HWK.out
                  go_wp2
                  have hk := HK.out; have hlt := HLT.out
                  go_roundg (t.length - (k + 1))
                  case measure => clear hwk; omega
                  case rel => exact ⟨k + 1, by clear hwk; omega, by first | rfl | (rw [hwk]; rfl), by rw [HSV.out]; simp [HK1.out, HE1.out], HOK2.out, HB3.out⟩
                · have hni1 : ((N : Int) == 1) = false := by rw [beq_eq_false_iff_ne]; omega
                  by_cases hge : N ≤ k
                  · have hgi : (N : Int) ≤ (k : Int) := by omega
                    have hgi' : decide ((N : Int) ≤ (k : Int)) = true := decide_eq_true hgi
                    have hwk := HWK.out
                    go_wp2
                    have hk := HK.out; have hlt := HLT.out
                    go_roundg (t.length - (k + 1))
                    case measure => clear hwk; omega
                    case rel => exact ⟨k + 1, by clear hwk; omega, by first | rfl | (rw [hwk]; rfl), by rw [HSV.out]; simp [HK1.out, hn1, hge], HOK2.out, HB3.out⟩
                  · have hgi : ¬ (N : Int) ≤ (k : Int) := by omega
                    have hgi' : decide ((N : Int) ≤ (k : Int)) = false := decide_eq_false hgi
                    have hwk := HWK.out
                    go_wp2
                    have hk := HK.out; have hlt := HLT.out
                    go_roundg (t.length - (k + 1))
                    case measure => clear hwk; omega
                    case rel => exact ⟨k + 1, by clear hwk; omega, by first | rfl | (rw [hwk]; rfl), by rw [HSV.out]; simp [HK1.out, hn1, hge], HOK2.out, HB3.out⟩
            · have hk2 : ((n.k : Int) == 2) = true := by rw [hkk]; rfl
              have hk1 : ((n.k : Int) == 1) = false := by rw [hkk]; rfl
              have HF : Hid (r = false) := hid (HNO.out fun h => h.even k HLT.out hpar (by rw [← HNE.out]; exact hkk))
              clear hpar hkk
              go_wp2
              go_ret
              exact ⟨by rw [HF.out]; rfl, HB3.out⟩
          · rw [hpar] at ht
            rcases hkk with hkk | hkk | hkk
            · have hk2 : ((n.k : Int) == 2) = false := by rw [hkk]; rfl
              have hk1 : ((n.k : Int) == 1) = false := by rw [hkk]; rfl
              have HK1 : Hid (¬ n.k = 1) := hid (by omega)
              have HOK2 : Hid (∀ x, x < k + 1 → OkN17 t x) := hid fun x hx => by
                rcases Nat.lt_or_ge x k with h1 | h1
                · exact HOK.out x h1
                · obtain rfl : x = k := by clear ht; omega
                  refine ⟨HQ.out.symm, fun h => ?_, fun h => ?_⟩ <;> rw [← HNE.out] <;> clear ht <;> omega
              clear hpar hkk
              cases s with
              | true =>
                have hwk := HWK.out
                go_wp2
                have hk := HK.out; have hlt := HLT.out
                go_roundg (t.length - (k + 1))
                case measure => clear hwk; omega
                case rel => exact ⟨k + 1, by clear hwk; omega, by first | rfl | (rw [hwk]; rfl), by rw [HSV.out]; simp [], HOK2.out, HB3.out⟩
              | false =>
                have hwk := HWK.out
                go_wp2
                have hk := HK.out; have hlt := HLT.out
                go_roundg (t.length - (k + 1))
                case measure => clear hwk; omega
                case rel => exact ⟨k + 1, by clear hwk; omega, by first | rfl | (rw [hwk]; rfl), by rw [HSV.out]; simp [HK1.out], HOK2.out, HB3.out⟩
            · have hk2 : ((n.k : Int) == 2) = false := by rw [hkk]; rfl
              have hk1 : ((n.k : Int) == 1) = true := by rw [hkk]; rfl
              have HF : Hid (r = false) := hid (HNO.out fun h => h.odd k HLT.out hpar (by rw [← HNE.out]; exact hkk))
              clear hpar hkk
              go_wp2
              go_ret
              exact ⟨by rw [HF.out]; rfl, HB3.out⟩
            · have hk2 : ((n.k : Int) == 2) = true := by rw [hkk]; rfl
              have hk1 : ((n.k : Int) == 1) = false := by rw [hkk]; rfl
              have HK1 : Hid (¬ n.k = 1) := hid (by omega)
              have HOK2 : Hid (∀ x, x < k + 1 → OkN17 t x) := hid fun x hx => by
                rcases Nat.lt_or_ge x k with h1 | h1
                · exact HOK.out x h1
                · obtain rfl : x = k := by clear ht; omega
                  refine ⟨HQ.out.symm, fun h => ?_, fun h => ?_⟩ <;> rw [← HNE.out] <;> clear ht <;> omega
              clear hpar hkk
              cases s with
              | true =>
                have hwk := HWK.out
                go_wp2
                have hk := HK.out; have hlt := HLT.out
                go_roundg (t.length - (k + 1))
                case measure => clear hwk; omega
                case rel => exact ⟨k + 1, by clear hwk; omega, by first | rfl | (rw [hwk]; rfl), by rw [HSV.out]; simp [], HOK2.out, HB3.out⟩
              | false =>
                have hwk := HWK.out
                go_wp2
                have hk := HK.out; have hlt := HLT.out
                go_roundg (t.length - (k + 1))
                case measure => clear hwk; omega
                case rel => exact ⟨k + 1, by clear hwk; omega, by first | rfl | (rw [hwk]; rfl), by rw [HSV.out]; simp [HK1.out], HOK2.out, HB3.out⟩
      · have hge : ¬ (k : Int) < (t.length : Int) := by omega
        obtain rfl : k = t.length := by have := HK.out; omega
        clear hlt
        cases s with
        | false =>
          have HF : Hid (r = false) := hid (HNO.out fun h => by
            have := (HSM.out t.length).2 h.some
            rw [← hs] at this; cases this)
          clear hs
          go_wp2
          go_ret
          exact ⟨by rw [HF.out]; rfl, HB.out⟩
        | true =>
          have HSO : Hid (∃ x, x < t.length ∧ (nAt t x).k = 1 ∧ (K = 0 ∨ 2 ^ K ≤ x)) := hid ((HSM.out t.length).1 hs.symm)
          clear hs HSM hge HK
          go_wp2
          go_loopg [7] t.length (fun rr xv wq => ∃ x : Nat, x + rr = t.length ∧ xv = .int .i64 (x : Int) ∧ (∀ y, y < x → ∀ l ∈ (nAt t y).u.late, LtOk17 t K y l) ∧ Below w1.heap.size w1 wq)
          case atStart => exact ⟨0, by omega, rfl, fun x hx => absurd hx (Nat.not_lt_zero _), HB.out⟩
          case round =>
            clear HB
            obtain ⟨x, hx, rfl, hall, hb⟩ := hrel
            have HX := hid hx; have HALL := hid hall; have HBX := hid hb
            clear hx hall hb
            by_cases hxt : x < t.length
            · obtain ⟨b, o, n, a, rfl, hbl, hnn, hne, hni, hrg⟩ := (HA.out.up HBX.out).at_ hxt
              have HLC : Hid (wr.cell? ⟨b, o + x * 10 + 7 + 2, none⟩ = some (.slice a.p.a2 n.u.late.length a.p.c2)) := hid (late_at hrg)
              have HLP : Hid (Lie wr wr.heap.size a.p.a2 (izs n.u.late)) := hid hni.2.2.2
              have HRNG : Hid (∀ v ∈ n.u.late, 0 ≤ v ∧ v ≤ 65535) := hid (by rw [hne]; exact late_rng (HOK.out x hxt).1)
              have HLL : Hid (n.u.late.length ≤ 1000000) := hid (HM.out.2 x n hnn).2.1.2.2
              obtain ⟨L, hL⟩ : ∃ L, L = n.u.late := ⟨_, rfl⟩
              have HLE : Hid (L = (nAt t x).u.late) := hid (by rw [hL, hne])
              obtain ⟨LA, hLA⟩ : ∃ L, L = a.p.a2 := ⟨_, rfl⟩
              obtain ⟨LC, hLC⟩ : ∃ L, L = a.p.c2 := ⟨_, rfl⟩
              rw [← hL] at HLC HLP HRNG HLL
              rw [← hLA] at HLC HLP
              rw [← hLC] at HLC
              have hlc := HLC.out
              have hxi : (x : Int) < (t.length : Int) := by omega
              have hx0 : (0 : Int) ≤ (x : Int) := by omega
              have HXT := hid hxt
              have HX16 : Hid (x ≤ 131070) := hid (by have := HM.out.1; omega)
              have HWX : Hid (wrap64 ((x : Int) + 1) = (x : Int) + 1) := hid (wrap_2e (by omega) (by have := HX16.out; omega))
              obtain ⟨wx, hwx⟩ : ∃ W, W = wr := ⟨_, rfl⟩
              have HLPX : Hid (Lie wx wx.heap.size LA (izs L)) := hid (by rw [hwx]; exact HLP.out)
              have HBXX : Hid (Below w1.heap.size w1 wx) := hid (by rw [hwx]; exact HBX.out)
              clear hL hLA hLC HLC HLP hbl hnn hne hni hrg hxt
              go_wp2
              rw [← hwx]
              go_loopg [9] L.length (fun rr iv wq => ∃ m : Nat, m + rr = L.length ∧ iv = .int .i64 (m : Int) ∧ (∀ v ∈ L.take m, LtOk17 t K x v) ∧ Below wx.heap.size wx wq)
              case atStart => exact ⟨0, by omega, rfl, fun v hv => by rw [List.take_zero] at hv; (cases hv), Below.refl _ _⟩
              case round =>
                clear hlc hwx HBX
                obtain ⟨m, hmr, rfl, hdone, hb⟩ := hrel
                have HMI := hid hmr; have HDONE := hid hdone; have HBM := hid hb
                have HB1M := hid (HBXX.out.trans (hb.mono HBXX.out.size))
                clear hmr hdone hb
                by_cases hml : m < L.length
                · obtain ⟨lb, lo, rfl, hlb, hcv⟩ := (HLPX.out.below HBM.out).numZ hml
                  have hv := HRNG.out _ (List.getElem_mem hml)
                  obtain ⟨p, hp⟩ : ∃ p : Nat, L[m]'hml = (p : Int) := ⟨(L[m]'hml).toNat, by omega⟩
                  rw [hp] at hcv
                  have hp16 : p ≤ 65535 := by omega
                  have HPM : Hid ((p : Int) ∈ (nAt t x).u.late) := hid (by rw [← hp, ← HLE.out]; exact List.getElem_mem hml)
                  have HTK : Hid (∀ v ∈ L.take (m + 1), v = (p : Int) ∨ v ∈ L.take m) := hid fun v hv => by
                    rw [List.take_succ_eq_append_getElem hml, List.mem_append, List.mem_singleton, hp] at hv
                    exact hv.symm
                  have hmi : (m : Int) < (L.length : Int) := by omega
                  have hm0 : (0 : Int) ≤ (m : Int) := by omega
                  have HML := hid hml; have HP16 := hid hp16
                  have HCVW : Hid (∀ W, Below wr.heap.size wr W → W.cell? ⟨lb, lo + m, none⟩ = some (.int .i64 (p : Int))) := hid fun W hb => (hb.cell (p := ⟨lb, lo + m, none⟩) (Nat.lt_of_lt_of_le hlb HBM.out.size)).trans hcv
                  have HWM : Hid (wrap64 ((m : Int) + 1) = (m : Int) + 1) := hid (wrap_2e (by omega) (by have := HLL.out; omega))
                  clear hv hp hp16 hml hlb
                  by_cases hnp : N ≤ p
                  · have hge : (N : Int) ≤ (p : Int) := by omega
                    have hge' : decide ((N : Int) ≤ (p : Int)) = true := decide_eq_true hge
                    have HF : Hid (r = false) := hid (HNO.out fun h => by
                      obtain ⟨i, hi, h2, -⟩ := h.late x HXT.out _ HPM.out
                      rw [← HKN.out] at h2
                      omega)
                    clear hnp
                    go_wp2
                    go_ret
                    exact ⟨by rw [HF.out]; rfl, HB1M.out⟩
                  · have hge : ¬ (N : Int) ≤ (p : Int) := by omega
                    have hge' : decide ((N : Int) ≤ (p : Int)) = false := decide_eq_false hge
                    obtain ⟨d, hd⟩ : ∃ d, d = 2 * p := ⟨_, rfl⟩
                    have hdl : d < t.length := by have := HL.out; omega
                    obtain ⟨b2, o2, n2, a2, he2, hbl2, hnn2, hne2, -, hrg2⟩ := (HA.out.up HB1M.out).at_ hdl
                    simp only [Option.some.injEq, Addr.mk.injEq] at he2
                    obtain ⟨rfl, rfl, -⟩ := he2
                    have hkd := kind_at hrg2
                    have HKD : Hid (n2.k = (nAt t (2 * p)).k) := hid (by rw [hne2, hd])
                    have hdi : (d : Int) < (t.length : Int) := by omega
                    have hd0 : (0 : Int) ≤ (d : Int) := by omega
                    have HWD : Hid (wrap64 (2 * (p : Int)) = (d : Int)) := hid ((wrap_2e (by omega) (by have := HP16.out; omega)).trans (by omega))
                    have HD := hid hd
                    have HNP := hid hnp
                    clear hbl2 hnn2 hne2 hrg2 hdl hd hnp
                    have hwd := HWD.out
                    by_cases hk1 : n2.k = 1
                    · have hki : ((n2.k : Int) != 1) = false := by rw [bne_eq_false_iff_eq]; omega
                      have HKP : Hid ((nAt t (2 * p)).k = 1) := hid (by rw [← HKD.out]; exact hk1)
                      have HU0 : Hid (∀ W, Calls Try.prog 28 #[.int .i64 (d : Int), .int .i64 (x : Int)] W (RetB W (decide (bel p x)))) := hid fun W => by
                        have h := UnderR (d : Int) (x : Int) W
                        rw [HD.out, under_bel HX16.out HP16.out, ← HD.out] at h
                        exact h
                      clear hk1
                      by_cases hbx : bel p x
                      · rw [decide_eq_true hbx] at HU0
                        have HBPX := hid hbx
                        clear hbx
                        go_wp2_with fail
                        refine (HU0.out _).mono ?_
                        rintro e w4 ⟨rfl, hb⟩
                        have HCV4 : Hid (∀ W, Below w4.heap.size w4 W → W.cell? ⟨lb, lo + m, none⟩ = some (.int .i64 (p : Int))) := hid fun W hbW => HCVW.out W (hb.trans (hbW.mono hb.size))
                        have HB14 := hid (HB1M.out.trans (hb.mono HB1M.out.size))
                        have HBX4 := hid (HBM.out.trans (hb.mono HBM.out.size))
                        clear hb HU0 HCVW HB1M HBM hcv hkd hwd hki hge hge'
                        go_wp2
                        go_loopg [10] t.length (fun rr yv wq => ∃ y : Nat, y + rr = t.length ∧ yv = .int .i64 (y : Int) ∧ (∀ z, z < y → (nAt t z).k = 2 → bel p z → und z x → (p : Int) ∈ (nAt t z).u.late) ∧ Below w4.heap.size w4 wq)
                        case atStart => exact ⟨0, by omega, rfl, fun z hz => absurd hz (Nat.not_lt_zero _), Below.refl _ _⟩
                        case round =>
                          obtain ⟨y, hy, rfl, hys, hb⟩ := hrel
                          have HY := hid hy; have HYS := hid hys; have HBY := hid hb
                          clear hy hys hb
                          have HB1Y := hid (HB14.out.trans (HBY.out.mono HB14.out.size))
                          by_cases hyl : y < t.length
                          · obtain ⟨b3, o3, n3, a3, he3, hbl3, hnn3, hne3, hni3, hrg3⟩ := (HA.out.up HB1Y.out).at_ hyl
                            simp only [Option.some.injEq, Addr.mk.injEq] at he3
                            obtain ⟨rfl, rfl, -⟩ := he3
                            have HKY0 := kind_at hrg3
                            have HLY0 := late_at hrg3
                            have HKY : Hid (∀ W, Below wr.heap.size wr W → W.cell? ⟨b, o + y * 10, none⟩ = some (.int .u8 (n3.k : Int))) := hid fun W hb => (hb.cell (p := ⟨b, o + y * 10, none⟩) hbl3).trans HKY0
                            have HLY : Hid (∀ W, Below wr.heap.size wr W → W.cell? ⟨b, o + y * 10 + 7 + 2, none⟩ = some (.slice a3.p.a2 n3.u.late.length a3.p.c2)) := hid fun W hb => (hb.cell (p := ⟨b, o + y * 10 + 7 + 2, none⟩) hbl3).trans HLY0
                            have HCV : Hid (∀ W, Below wr.heap.size wr W → W.cell? ⟨lb, lo + m, none⟩ = some (.int .i64 (p : Int))) := hid fun W hb => HCV4.out W (HBY.out.trans (hb.mono HBY.out.size))
                            have HU1 : Hid (∀ W, Below wr.heap.size wr W → Calls Try.prog 28 #[.int .i64 (d : Int), .int .i64 (y : Int)] W (RetB W (decide (bel p y)))) := hid fun W _ => by
                              have h := UnderR (d : Int) (y : Int) W
                              rw [HD.out, under_bel (by have := HM.out.1; omega) HP16.out, ← HD.out] at h
                              exact h
                            have HU2 : Hid (∀ W, Below wr.heap.size wr W → Calls Try.prog 28 #[.int .i64 (y : Int), .int .i64 (x : Int)] W (RetB W (decide (und y x)))) := hid fun W _ => by
                              have h := UnderR (y : Int) (x : Int) W
                              rw [under_und HX16.out (by have := HM.out.1; omega)] at h
                              exact h
                            have HHS : Hid (∀ W, Below wr.heap.size wr W → Calls Try.prog 35 #[.slice a3.p.a2 n3.u.late.length a3.p.c2, .int .i64 (p : Int)] W (RetB W (decide ((p : Int) ∈ n3.u.late)))) := hid fun W hb => (has17_any a3.p.a2 n3.u.late a3.p.c2 (p : Int) W (lie_on hni3.2.2.2 hb) (HM.out.2 y n3 hnn3).2.1.2.2).mono fun e w' h => ⟨h.1, by rw [h.2]; exact Below.refl _ _⟩
                            have HSTEP : Hid (((nAt t y).k = 2 → bel p y → und y x → (p : Int) ∈ (nAt t y).u.late) → ∀ z, z < y + 1 → (nAt t z).k = 2 → bel p z → und z x → (p : Int) ∈ (nAt t z).u.late) := hid fun h z hz => by
                              rcases Nat.lt_or_ge z y with h1 | h1
                              · exact HYS.out z h1
                              · obtain rfl : z = y := by omega
                                exact h
                            have hyi : (y : Int) < (t.length : Int) := by omega
                            have hy0 : (0 : Int) ≤ (y : Int) := by omega
                            have HYLT := hid hyl
                            have HWY : Hid (wrap64 ((y : Int) + 1) = (y : Int) + 1) := hid (wrap_2e (by omega) (by have := HM.out.1; omega))
                            rw [hne3] at HKY HLY HHS
                            obtain ⟨ky, hky⟩ : ∃ k, k = (nAt t y).k := ⟨_, rfl⟩
                            obtain ⟨YL, hYL⟩ : ∃ k, k = (nAt t y).u.late := ⟨_, rfl⟩
                            obtain ⟨YA, hYA⟩ : ∃ k, k = a3.p.a2 := ⟨_, rfl⟩
                            obtain ⟨YC, hYC⟩ : ∃ k, k = a3.p.c2 := ⟨_, rfl⟩
                            rw [← hky] at HKY HSTEP
                            rw [← hYL] at HLY HHS HSTEP
                            rw [← hYA] at HLY HHS
                            rw [← hYC] at HLY HHS
                            obtain ⟨Yn, hYn⟩ : ∃ k, k = YL.length := ⟨_, rfl⟩
                            rw [← hYn] at HLY HHS
                            obtain ⟨tn, htn⟩ : ∃ k, k = t.length := ⟨_, rfl⟩
                            obtain ⟨Ln, hLn⟩ : ∃ k, k = L.length := ⟨_, rfl⟩
                            rw [← htn] at hyi ⊢
                            rw [← hLn] at hmi ⊢
                            have HTN := hid htn; have HLN := hid hLn; have HKY2 := hid hky; have HYL2 := hid hYL
                            have hwd := HWD.out
                            clear hbl3 hnn3 hne3 hni3 hrg3 HKY0 HLY0 hyl hky hYL hYA hYC hYn htn hLn
                            by_cases hk2 : ky = 2
                            · have hk2i : ((ky : Int) == 2) = true := by rw [beq_iff_eq]; omega
                              by_cases hu1 : bel p y
                              · rw [decide_eq_true hu1] at HU1
                                by_cases hu2 : und y x
                                · rw [decide_eq_true hu2] at HU2
                                  by_cases hh : (p : Int) ∈ YL
                                  · rw [decide_eq_true hh] at HHS
                                    go_upto_region 26 with fail
                                    refine wp_region_grA 32 (by kernel_rfl) (by decide) ?_
                                    refine wpGrA_take (i := 0) (.slice (some ⟨b, o, none⟩) tn c) rfl (by kernel_rfl) (by kernel_rfl) (fun _ _ _ h => h) (yG_val _ (by rfl) (fun w' _ => by (go_simp; try rfl))) ?_
                                    (try simp only [Act.put, List.getElem_toArray, List.getElem_cons_succ, List.getElem_cons_zero, List.setIfInBounds_toArray, List.set_cons_zero, List.set_cons_succ])
                                    refine wpGrA_take (i := 1) (.int .i64 (y : Int)) rfl (by kernel_rfl) (by kernel_rfl) (fun _ _ _ h => h) (yG_val _ (by rfl) (fun w' _ => by (go_simp; try rfl))) ?_
                                    (try simp only [Act.put, List.getElem_toArray, List.getElem_cons_succ, List.getElem_cons_zero, List.setIfInBounds_toArray, List.set_cons_zero, List.set_cons_succ])
                                    refine wpGrA_take (i := 2) (.pointer (some ⟨b, o + y * 10, none⟩)) rfl (by kernel_rfl) (by kernel_rfl) (fun _ _ _ h => h) (yG_val _ (by rfl) (fun w' _ => by (go_simp; try rfl))) ?_
                                    (try simp only [Act.put, List.getElem_toArray, List.getElem_cons_succ, List.getElem_cons_zero, List.setIfInBounds_toArray, List.set_cons_zero, List.set_cons_succ])
                                    refine wpGrA_take (i := 3) (.pointer (some ⟨b, o + y * 10, none⟩)) rfl (by kernel_rfl) (by kernel_rfl) (fun _ _ _ h => h) (yG_val _ (by rfl) (fun w' _ => by (go_simp; try rfl))) ?_
                                    (try simp only [Act.put, List.getElem_toArray, List.getElem_cons_succ, List.getElem_cons_zero, List.setIfInBounds_toArray, List.set_cons_zero, List.set_cons_succ])
                                    refine wpGrA_take (i := 4) (.int .u8 (ky : Int)) rfl (by kernel_rfl) (by kernel_rfl) (fun _ _ _ h => h) (yG_val _ (by rfl) (fun w' hb => by have h0 := HKY.out w' hb; (go_simp; try rfl))) ?_
                                    (try simp only [Act.put, List.getElem_toArray, List.getElem_cons_succ, List.getElem_cons_zero, List.setIfInBounds_toArray, List.set_cons_zero, List.set_cons_succ])
                                    refine wpGrA_take (i := 5) (.bool true) rfl (by kernel_rfl) (by kernel_rfl) (fun _ _ _ h => h) (yG_val _ (by rfl) (fun w' _ => by (go_simp; try rfl))) ?_
                                    (try simp only [Act.put, List.getElem_toArray, List.getElem_cons_succ, List.getElem_cons_zero, List.setIfInBounds_toArray, List.set_cons_zero, List.set_cons_succ])
                                    refine wpGrA_take (i := 6) (.bool true) rfl (by kernel_rfl) (by kernel_rfl) (fun _ _ _ h => h) (yG_val _ (by rfl) (fun w' _ => by (go_simp; try rfl))) ?_
                                    (try simp only [Act.put, List.getElem_toArray, List.getElem_cons_succ, List.getElem_cons_zero, List.setIfInBounds_toArray, List.set_cons_zero, List.set_cons_succ])
                                    refine wpGrA_take (i := 7) (.slice (some ⟨lb, lo, none⟩) Ln LC) rfl (by kernel_rfl) (by kernel_rfl) (fun _ _ _ h => h) (yG_val _ (by rfl) (fun w' _ => by (go_simp; try rfl))) ?_
                                    (try simp only [Act.put, List.getElem_toArray, List.getElem_cons_succ, List.getElem_cons_zero, List.setIfInBounds_toArray, List.set_cons_zero, List.set_cons_succ])
                                    refine wpGrA_take (i := 8) (.int .i64 (m : Int)) rfl (by kernel_rfl) (by kernel_rfl) (fun _ _ _ h => h) (yG_val _ (by rfl) (fun w' _ => by (go_simp; try rfl))) ?_
                                    (try simp only [Act.put, List.getElem_toArray, List.getElem_cons_succ, List.getElem_cons_zero, List.setIfInBounds_toArray, List.set_cons_zero, List.set_cons_succ])
                                    refine wpGrA_take (i := 9) (.pointer (some ⟨lb, lo + m, none⟩)) rfl (by kernel_rfl) (by kernel_rfl) (fun _ _ _ h => h) (yG_val _ (by rfl) (fun w' _ => by (go_simp; try rfl))) ?_
                                    (try simp only [Act.put, List.getElem_toArray, List.getElem_cons_succ, List.getElem_cons_zero, List.setIfInBounds_toArray, List.set_cons_zero, List.set_cons_succ])
                                    refine wpGrA_take (i := 10) (.int .i64 (p : Int)) rfl (by kernel_rfl) (by kernel_rfl) (fun _ _ _ h => h) (yG_val _ (by rfl) (fun w' hb => by have h0 := HCV.out w' hb; (go_simp; try rfl))) ?_
                                    (try simp only [Act.put, List.getElem_toArray, List.getElem_cons_succ, List.getElem_cons_zero, List.setIfInBounds_toArray, List.set_cons_zero, List.set_cons_succ])
                                    refine wpGrA_take (i := 11) (.int .i64 (d : Int)) rfl (by kernel_rfl) (by kernel_rfl) (fun _ _ _ h => h) (yG_val _ (by rfl) (fun w' _ => by (go_simp; first | done | rfl | exact (IntWalk.i64_left _).trans hwd))) ?_
                                    (try simp only [Act.put, List.getElem_toArray, List.getElem_cons_succ, List.getElem_cons_zero, List.setIfInBounds_toArray, List.set_cons_zero, List.set_cons_succ])
                                    refine wpGrA_take (i := 12) (.int .i64 (y : Int)) rfl (by kernel_rfl) (by kernel_rfl) (fun _ _ _ h => h) (yG_val _ (by rfl) (fun w' _ => by (go_simp; try rfl))) ?_
                                    (try simp only [Act.put, List.getElem_toArray, List.getElem_cons_succ, List.getElem_cons_zero, List.setIfInBounds_toArray, List.set_cons_zero, List.set_cons_succ])
                                    refine wpGrA_take (i := 13) (.bool true) rfl (by kernel_rfl) (by kernel_rfl) (fun _ _ _ h => h) (yG_call (by rfl) (fun w' => by go_simp) (fun w' hb => HU1.out w' hb)) ?_
                                    (try simp only [Act.put, List.getElem_toArray, List.getElem_cons_succ, List.getElem_cons_zero, List.setIfInBounds_toArray, List.set_cons_zero, List.set_cons_succ])
                                    refine wpGrA_take (i := 14) (.bool true) rfl (by kernel_rfl) (by kernel_rfl) (fun _ _ _ h => h) (yG_val _ (by rfl) (fun w' _ => by (go_simp; try rfl))) ?_
                                    (try simp only [Act.put, List.getElem_toArray, List.getElem_cons_succ, List.getElem_cons_zero, List.setIfInBounds_toArray, List.set_cons_zero, List.set_cons_succ])
                                    refine wpGrA_take (i := 15) (.bool true) rfl (by kernel_rfl) (by kernel_rfl) (fun _ _ _ h => h) (yG_val _ (by rfl) (fun w' _ => by (go_simp; try rfl))) ?_
                                    (try simp only [Act.put, List.getElem_toArray, List.getElem_cons_succ, List.getElem_cons_zero, List.setIfInBounds_toArray, List.set_cons_zero, List.set_cons_succ])
                                    refine wpGrA_take (i := 16) (.int .i64 (y : Int)) rfl (by kernel_rfl) (by kernel_rfl) (fun _ _ _ h => h) (yG_val _ (by rfl) (fun w' _ => by (go_simp; try rfl))) ?_
                                    (try simp only [Act.put, List.getElem_toArray, List.getElem_cons_succ, List.getElem_cons_zero, List.setIfInBounds_toArray, List.set_cons_zero, List.set_cons_succ])
                                    refine wpGrA_take (i := 17) (.int .i64 (x : Int)) rfl (by kernel_rfl) (by kernel_rfl) (fun _ _ _ h => h) (yG_val _ (by rfl) (fun w' _ => by (go_simp; try rfl))) ?_
                                    (try simp only [Act.put, List.getElem_toArray, List.getElem_cons_succ, List.getElem_cons_zero, List.setIfInBounds_toArray, List.set_cons_zero, List.set_cons_succ])
                                    refine wpGrA_take (i := 18) (.bool true) rfl (by kernel_rfl) (by kernel_rfl) (fun _ _ _ h => h) (yG_call (by rfl) (fun w' => by go_simp) (fun w' hb => HU2.out w' hb)) ?_
                                    (try simp only [Act.put, List.getElem_toArray, List.getElem_cons_succ, List.getElem_cons_zero, List.setIfInBounds_toArray, List.set_cons_zero, List.set_cons_succ])
                                    refine wpGrA_take (i := 19) (.bool true) rfl (by kernel_rfl) (by kernel_rfl) (fun _ _ _ h => h) (yG_val _ (by rfl) (fun w' _ => by (go_simp; try rfl))) ?_
                                    (try simp only [Act.put, List.getElem_toArray, List.getElem_cons_succ, List.getElem_cons_zero, List.setIfInBounds_toArray, List.set_cons_zero, List.set_cons_succ])
                                    refine wpGrA_take (i := 20) (.bool true) rfl (by kernel_rfl) (by kernel_rfl) (fun _ _ _ h => h) (yG_val _ (by rfl) (fun w' _ => by (go_simp; try rfl))) ?_
                                    (try simp only [Act.put, List.getElem_toArray, List.getElem_cons_succ, List.getElem_cons_zero, List.setIfInBounds_toArray, List.set_cons_zero, List.set_cons_succ])
                                    refine wpGrA_take (i := 21) (.slice (some ⟨b, o, none⟩) tn c) rfl (by kernel_rfl) (by kernel_rfl) (fun _ _ _ h => h) (yG_val _ (by rfl) (fun w' _ => by (go_simp; try rfl))) ?_
                                    (try simp only [Act.put, List.getElem_toArray, List.getElem_cons_succ, List.getElem_cons_zero, List.setIfInBounds_toArray, List.set_cons_zero, List.set_cons_succ])
                                    refine wpGrA_take (i := 22) (.int .i64 (y : Int)) rfl (by kernel_rfl) (by kernel_rfl) (fun _ _ _ h => h) (yG_val _ (by rfl) (fun w' _ => by (go_simp; try rfl))) ?_
                                    (try simp only [Act.put, List.getElem_toArray, List.getElem_cons_succ, List.getElem_cons_zero, List.setIfInBounds_toArray, List.set_cons_zero, List.set_cons_succ])
                                    refine wpGrA_take (i := 23) (.pointer (some ⟨b, o + y * 10, none⟩)) rfl (by kernel_rfl) (by kernel_rfl) (fun _ _ _ h => h) (yG_val _ (by rfl) (fun w' _ => by (go_simp; try rfl))) ?_
                                    (try simp only [Act.put, List.getElem_toArray, List.getElem_cons_succ, List.getElem_cons_zero, List.setIfInBounds_toArray, List.set_cons_zero, List.set_cons_succ])
                                    refine wpGrA_take (i := 24) (.pointer (some ⟨b, o + y * 10 + 7, none⟩)) rfl (by kernel_rfl) (by kernel_rfl) (fun _ _ _ h => h) (yG_val _ (by rfl) (fun w' _ => by (go_simp; try rfl))) ?_
                                    (try simp only [Act.put, List.getElem_toArray, List.getElem_cons_succ, List.getElem_cons_zero, List.setIfInBounds_toArray, List.set_cons_zero, List.set_cons_succ])
                                    refine wpGrA_take (i := 25) (.pointer (some ⟨b, o + y * 10 + 7 + 2, none⟩)) rfl (by kernel_rfl) (by kernel_rfl) (fun _ _ _ h => h) (yG_val _ (by rfl) (fun w' _ => by (go_simp; try rfl))) ?_
                                    (try simp only [Act.put, List.getElem_toArray, List.getElem_cons_succ, List.getElem_cons_zero, List.setIfInBounds_toArray, List.set_cons_zero, List.set_cons_succ])
                                    refine wpGrA_take (i := 26) (.slice YA Yn YC) rfl (by kernel_rfl) (by kernel_rfl) (fun _ _ _ h => h) (yG_val _ (by rfl) (fun w' hb => by have h0 := HLY.out w' hb; (go_simp; try rfl))) ?_
                                    (try simp only [Act.put, List.getElem_toArray, List.getElem_cons_succ, List.getElem_cons_zero, List.setIfInBounds_toArray, List.set_cons_zero, List.set_cons_succ])
                                    refine wpGrA_take (i := 27) (.slice (some ⟨lb, lo, none⟩) Ln LC) rfl (by kernel_rfl) (by kernel_rfl) (fun _ _ _ h => h) (yG_val _ (by rfl) (fun w' _ => by (go_simp; try rfl))) ?_
                                    (try simp only [Act.put, List.getElem_toArray, List.getElem_cons_succ, List.getElem_cons_zero, List.setIfInBounds_toArray, List.set_cons_zero, List.set_cons_succ])
                                    refine wpGrA_take (i := 28) (.int .i64 (m : Int)) rfl (by kernel_rfl) (by kernel_rfl) (fun _ _ _ h => h) (yG_val _ (by rfl) (fun w' _ => by (go_simp; try rfl))) ?_
                                    (try simp only [Act.put, List.getElem_toArray, List.getElem_cons_succ, List.getElem_cons_zero, List.setIfInBounds_toArray, List.set_cons_zero, List.set_cons_succ])
                                    refine wpGrA_take (i := 29) (.pointer (some ⟨lb, lo + m, none⟩)) rfl (by kernel_rfl) (by kernel_rfl) (fun _ _ _ h => h) (yG_val _ (by rfl) (fun w' _ => by (go_simp; try rfl))) ?_
                                    (try simp only [Act.put, List.getElem_toArray, List.getElem_cons_succ, List.getElem_cons_zero, List.setIfInBounds_toArray, List.set_cons_zero, List.set_cons_succ])
                                    refine wpGrA_take (i := 30) (.int .i64 (p : Int)) rfl (by kernel_rfl) (by kernel_rfl) (fun _ _ _ h => h) (yG_val _ (by rfl) (fun w' hb => by have h0 := HCV.out w' hb; (go_simp; try rfl))) ?_
                                    (try simp only [Act.put, List.getElem_toArray, List.getElem_cons_succ, List.getElem_cons_zero, List.setIfInBounds_toArray, List.set_cons_zero, List.set_cons_succ])
                                    refine wpGrA_take (i := 31) (.bool true) rfl (by kernel_rfl) (by kernel_rfl) (fun _ _ _ h => h) (yG_call (by rfl) (fun w' => by go_simp) (fun w' hb => HHS.out w' hb)) ?_
                                    (try simp only [Act.put, List.getElem_toArray, List.getElem_cons_succ, List.getElem_cons_zero, List.setIfInBounds_toArray, List.set_cons_zero, List.set_cons_succ])
                                    refine wpGrA_end (by kernel_rfl) ?_
                                    intro w9 hb5
                                    simp only [List.drop_succ_cons, List.drop_zero]
                                    have HB9 := hid (HBY.out.trans (hb5.mono HBY.out.size))
                                    clear hb5
                                    have hwy := HWY.out
                                    go_wp2
                                    have hy := HY.out; have hylt := HYLT.out
                                    have htn := HTN.out; have hLn := HLN.out
                                    subst htn; subst hLn
                                    go_roundg (t.length - (y + 1))
                                    case measure => clear hwy; omega
                                    case rel => exact ⟨y + 1, by clear hwy; omega, by first | rfl | (rw [hwy]; rfl), HSTEP.out (fun _ _ _ => hh), HB9.out⟩
                                  · rw [decide_eq_false hh] at HHS
                                    have HF : Hid (r = false) := hid (HNO.out fun h => by
                                      obtain ⟨i, hi, -, -, -, h5⟩ := h.late x HXT.out _ HPM.out
                                      obtain rfl : p = i := by omega
                                      exact hh (by rw [HYL2.out]; exact h5 y HYLT.out (by rw [← HKY2.out]; exact hk2) hu1 hu2))
                                    go_upto_region 26 with fail
                                    refine wp_region_grA 32 (by kernel_rfl) (by decide) ?_
                                    refine wpGrA_take (i := 0) (.slice (some ⟨b, o, none⟩) tn c) rfl (by kernel_rfl) (by kernel_rfl) (fun _ _ _ h => h) (yG_val _ (by rfl) (fun w' _ => by (go_simp; try rfl))) ?_
                                    (try simp only [Act.put, List.getElem_toArray, List.getElem_cons_succ, List.getElem_cons_zero, List.setIfInBounds_toArray, List.set_cons_zero, List.set_cons_succ])
                                    refine wpGrA_take (i := 1) (.int .i64 (y : Int)) rfl (by kernel_rfl) (by kernel_rfl) (fun _ _ _ h => h) (yG_val _ (by rfl) (fun w' _ => by (go_simp; try rfl))) ?_
                                    (try simp only [Act.put, List.getElem_toArray, List.getElem_cons_succ, List.getElem_cons_zero, List.setIfInBounds_toArray, List.set_cons_zero, List.set_cons_succ])
                                    refine wpGrA_take (i := 2) (.pointer (some ⟨b, o + y * 10, none⟩)) rfl (by kernel_rfl) (by kernel_rfl) (fun _ _ _ h => h) (yG_val _ (by rfl) (fun w' _ => by (go_simp; try rfl))) ?_
                                    (try simp only [Act.put, List.getElem_toArray, List.getElem_cons_succ, List.getElem_cons_zero, List.setIfInBounds_toArray, List.set_cons_zero, List.set_cons_succ])
                                    refine wpGrA_take (i := 3) (.pointer (some ⟨b, o + y * 10, none⟩)) rfl (by kernel_rfl) (by kernel_rfl) (fun _ _ _ h => h) (yG_val _ (by rfl) (fun w' _ => by (go_simp; try rfl))) ?_
                                    (try simp only [Act.put, List.getElem_toArray, List.getElem_cons_succ, List.getElem_cons_zero, List.setIfInBounds_toArray, List.set_cons_zero, List.set_cons_succ])
                                    refine wpGrA_take (i := 4) (.int .u8 (ky : Int)) rfl (by kernel_rfl) (by kernel_rfl) (fun _ _ _ h => h) (yG_val _ (by rfl) (fun w' hb => by have h0 := HKY.out w' hb; (go_simp; try rfl))) ?_
                                    (try simp only [Act.put, List.getElem_toArray, List.getElem_cons_succ, List.getElem_cons_zero, List.setIfInBounds_toArray, List.set_cons_zero, List.set_cons_succ])
                                    refine wpGrA_take (i := 5) (.bool true) rfl (by kernel_rfl) (by kernel_rfl) (fun _ _ _ h => h) (yG_val _ (by rfl) (fun w' _ => by (go_simp; try rfl))) ?_
                                    (try simp only [Act.put, List.getElem_toArray, List.getElem_cons_succ, List.getElem_cons_zero, List.setIfInBounds_toArray, List.set_cons_zero, List.set_cons_succ])
                                    refine wpGrA_take (i := 6) (.bool true) rfl (by kernel_rfl) (by kernel_rfl) (fun _ _ _ h => h) (yG_val _ (by rfl) (fun w' _ => by (go_simp; try rfl))) ?_
                                    (try simp only [Act.put, List.getElem_toArray, List.getElem_cons_succ, List.getElem_cons_zero, List.setIfInBounds_toArray, List.set_cons_zero, List.set_cons_succ])
                                    refine wpGrA_take (i := 7) (.slice (some ⟨lb, lo, none⟩) Ln LC) rfl (by kernel_rfl) (by kernel_rfl) (fun _ _ _ h => h) (yG_val _ (by rfl) (fun w' _ => by (go_simp; try rfl))) ?_
                                    (try simp only [Act.put, List.getElem_toArray, List.getElem_cons_succ, List.getElem_cons_zero, List.setIfInBounds_toArray, List.set_cons_zero, List.set_cons_succ])
                                    refine wpGrA_take (i := 8) (.int .i64 (m : Int)) rfl (by kernel_rfl) (by kernel_rfl) (fun _ _ _ h => h) (yG_val _ (by rfl) (fun w' _ => by (go_simp; try rfl))) ?_
                                    (try simp only [Act.put, List.getElem_toArray, List.getElem_cons_succ, List.getElem_cons_zero, List.setIfInBounds_toArray, List.set_cons_zero, List.set_cons_succ])
                                    refine wpGrA_take (i := 9) (.pointer (some ⟨lb, lo + m, none⟩)) rfl (by kernel_rfl) (by kernel_rfl) (fun _ _ _ h => h) (yG_val _ (by rfl) (fun w' _ => by (go_simp; try rfl))) ?_
                                    (try simp only [Act.put, List.getElem_toArray, List.getElem_cons_succ, List.getElem_cons_zero, List.setIfInBounds_toArray, List.set_cons_zero, List.set_cons_succ])
                                    refine wpGrA_take (i := 10) (.int .i64 (p : Int)) rfl (by kernel_rfl) (by kernel_rfl) (fun _ _ _ h => h) (yG_val _ (by rfl) (fun w' hb => by have h0 := HCV.out w' hb; (go_simp; try rfl))) ?_
                                    (try simp only [Act.put, List.getElem_toArray, List.getElem_cons_succ, List.getElem_cons_zero, List.setIfInBounds_toArray, List.set_cons_zero, List.set_cons_succ])
                                    refine wpGrA_take (i := 11) (.int .i64 (d : Int)) rfl (by kernel_rfl) (by kernel_rfl) (fun _ _ _ h => h) (yG_val _ (by rfl) (fun w' _ => by (go_simp; first | done | rfl | exact (IntWalk.i64_left _).trans hwd))) ?_
                                    (try simp only [Act.put, List.getElem_toArray, List.getElem_cons_succ, List.getElem_cons_zero, List.setIfInBounds_toArray, List.set_cons_zero, List.set_cons_succ])
                                    refine wpGrA_take (i := 12) (.int .i64 (y : Int)) rfl (by kernel_rfl) (by kernel_rfl) (fun _ _ _ h => h) (yG_val _ (by rfl) (fun w' _ => by (go_simp; try rfl))) ?_
                                    (try simp only [Act.put, List.getElem_toArray, List.getElem_cons_succ, List.getElem_cons_zero, List.setIfInBounds_toArray, List.set_cons_zero, List.set_cons_succ])
                                    refine wpGrA_take (i := 13) (.bool true) rfl (by kernel_rfl) (by kernel_rfl) (fun _ _ _ h => h) (yG_call (by rfl) (fun w' => by go_simp) (fun w' hb => HU1.out w' hb)) ?_
                                    (try simp only [Act.put, List.getElem_toArray, List.getElem_cons_succ, List.getElem_cons_zero, List.setIfInBounds_toArray, List.set_cons_zero, List.set_cons_succ])
                                    refine wpGrA_take (i := 14) (.bool true) rfl (by kernel_rfl) (by kernel_rfl) (fun _ _ _ h => h) (yG_val _ (by rfl) (fun w' _ => by (go_simp; try rfl))) ?_
                                    (try simp only [Act.put, List.getElem_toArray, List.getElem_cons_succ, List.getElem_cons_zero, List.setIfInBounds_toArray, List.set_cons_zero, List.set_cons_succ])
                                    refine wpGrA_take (i := 15) (.bool true) rfl (by kernel_rfl) (by kernel_rfl) (fun _ _ _ h => h) (yG_val _ (by rfl) (fun w' _ => by (go_simp; try rfl))) ?_
                                    (try simp only [Act.put, List.getElem_toArray, List.getElem_cons_succ, List.getElem_cons_zero, List.setIfInBounds_toArray, List.set_cons_zero, List.set_cons_succ])
                                    refine wpGrA_take (i := 16) (.int .i64 (y : Int)) rfl (by kernel_rfl) (by kernel_rfl) (fun _ _ _ h => h) (yG_val _ (by rfl) (fun w' _ => by (go_simp; try rfl))) ?_
                                    (try simp only [Act.put, List.getElem_toArray, List.getElem_cons_succ, List.getElem_cons_zero, List.setIfInBounds_toArray, List.set_cons_zero, List.set_cons_succ])
                                    refine wpGrA_take (i := 17) (.int .i64 (x : Int)) rfl (by kernel_rfl) (by kernel_rfl) (fun _ _ _ h => h) (yG_val _ (by rfl) (fun w' _ => by (go_simp; try rfl))) ?_
                                    (try simp only [Act.put, List.getElem_toArray, List.getElem_cons_succ, List.getElem_cons_zero, List.setIfInBounds_toArray, List.set_cons_zero, List.set_cons_succ])
                                    refine wpGrA_take (i := 18) (.bool true) rfl (by kernel_rfl) (by kernel_rfl) (fun _ _ _ h => h) (yG_call (by rfl) (fun w' => by go_simp) (fun w' hb => HU2.out w' hb)) ?_
                                    (try simp only [Act.put, List.getElem_toArray, List.getElem_cons_succ, List.getElem_cons_zero, List.setIfInBounds_toArray, List.set_cons_zero, List.set_cons_succ])
                                    refine wpGrA_take (i := 19) (.bool true) rfl (by kernel_rfl) (by kernel_rfl) (fun _ _ _ h => h) (yG_val _ (by rfl) (fun w' _ => by (go_simp; try rfl))) ?_
                                    (try simp only [Act.put, List.getElem_toArray, List.getElem_cons_succ, List.getElem_cons_zero, List.setIfInBounds_toArray, List.set_cons_zero, List.set_cons_succ])
                                    refine wpGrA_take (i := 20) (.bool true) rfl (by kernel_rfl) (by kernel_rfl) (fun _ _ _ h => h) (yG_val _ (by rfl) (fun w' _ => by (go_simp; try rfl))) ?_
                                    (try simp only [Act.put, List.getElem_toArray, List.getElem_cons_succ, List.getElem_cons_zero, List.setIfInBounds_toArray, List.set_cons_zero, List.set_cons_succ])
                                    refine wpGrA_take (i := 21) (.slice (some ⟨b, o, none⟩) tn c) rfl (by kernel_rfl) (by kernel_rfl) (fun _ _ _ h => h) (yG_val _ (by rfl) (fun w' _ => by (go_simp; try rfl))) ?_
                                    (try simp only [Act.put, List.getElem_toArray, List.getElem_cons_succ, List.getElem_cons_zero, List.setIfInBounds_toArray, List.set_cons_zero, List.set_cons_succ])
                                    refine wpGrA_take (i := 22) (.int .i64 (y : Int)) rfl (by kernel_rfl) (by kernel_rfl) (fun _ _ _ h => h) (yG_val _ (by rfl) (fun w' _ => by (go_simp; try rfl))) ?_
                                    (try simp only [Act.put, List.getElem_toArray, List.getElem_cons_succ, List.getElem_cons_zero, List.setIfInBounds_toArray, List.set_cons_zero, List.set_cons_succ])
                                    refine wpGrA_take (i := 23) (.pointer (some ⟨b, o + y * 10, none⟩)) rfl (by kernel_rfl) (by kernel_rfl) (fun _ _ _ h => h) (yG_val _ (by rfl) (fun w' _ => by (go_simp; try rfl))) ?_
                                    (try simp only [Act.put, List.getElem_toArray, List.getElem_cons_succ, List.getElem_cons_zero, List.setIfInBounds_toArray, List.set_cons_zero, List.set_cons_succ])
                                    refine wpGrA_take (i := 24) (.pointer (some ⟨b, o + y * 10 + 7, none⟩)) rfl (by kernel_rfl) (by kernel_rfl) (fun _ _ _ h => h) (yG_val _ (by rfl) (fun w' _ => by (go_simp; try rfl))) ?_
                                    (try simp only [Act.put, List.getElem_toArray, List.getElem_cons_succ, List.getElem_cons_zero, List.setIfInBounds_toArray, List.set_cons_zero, List.set_cons_succ])
                                    refine wpGrA_take (i := 25) (.pointer (some ⟨b, o + y * 10 + 7 + 2, none⟩)) rfl (by kernel_rfl) (by kernel_rfl) (fun _ _ _ h => h) (yG_val _ (by rfl) (fun w' _ => by (go_simp; try rfl))) ?_
                                    (try simp only [Act.put, List.getElem_toArray, List.getElem_cons_succ, List.getElem_cons_zero, List.setIfInBounds_toArray, List.set_cons_zero, List.set_cons_succ])
                                    refine wpGrA_take (i := 26) (.slice YA Yn YC) rfl (by kernel_rfl) (by kernel_rfl) (fun _ _ _ h => h) (yG_val _ (by rfl) (fun w' hb => by have h0 := HLY.out w' hb; (go_simp; try rfl))) ?_
                                    (try simp only [Act.put, List.getElem_toArray, List.getElem_cons_succ, List.getElem_cons_zero, List.setIfInBounds_toArray, List.set_cons_zero, List.set_cons_succ])
                                    refine wpGrA_take (i := 27) (.slice (some ⟨lb, lo, none⟩) Ln LC) rfl (by kernel_rfl) (by kernel_rfl) (fun _ _ _ h => h) (yG_val _ (by rfl) (fun w' _ => by (go_simp; try rfl))) ?_
                                    (try simp only [Act.put, List.getElem_toArray, List.getElem_cons_succ, List.getElem_cons_zero, List.setIfInBounds_toArray, List.set_cons_zero, List.set_cons_succ])
                                    refine wpGrA_take (i := 28) (.int .i64 (m : Int)) rfl (by kernel_rfl) (by kernel_rfl) (fun _ _ _ h => h) (yG_val _ (by rfl) (fun w' _ => by (go_simp; try rfl))) ?_
                                    (try simp only [Act.put, List.getElem_toArray, List.getElem_cons_succ, List.getElem_cons_zero, List.setIfInBounds_toArray, List.set_cons_zero, List.set_cons_succ])
                                    refine wpGrA_take (i := 29) (.pointer (some ⟨lb, lo + m, none⟩)) rfl (by kernel_rfl) (by kernel_rfl) (fun _ _ _ h => h) (yG_val _ (by rfl) (fun w' _ => by (go_simp; try rfl))) ?_
                                    (try simp only [Act.put, List.getElem_toArray, List.getElem_cons_succ, List.getElem_cons_zero, List.setIfInBounds_toArray, List.set_cons_zero, List.set_cons_succ])
                                    refine wpGrA_take (i := 30) (.int .i64 (p : Int)) rfl (by kernel_rfl) (by kernel_rfl) (fun _ _ _ h => h) (yG_val _ (by rfl) (fun w' hb => by have h0 := HCV.out w' hb; (go_simp; try rfl))) ?_
                                    (try simp only [Act.put, List.getElem_toArray, List.getElem_cons_succ, List.getElem_cons_zero, List.setIfInBounds_toArray, List.set_cons_zero, List.set_cons_succ])
                                    refine wpGrA_take (i := 31) (.bool false) rfl (by kernel_rfl) (by kernel_rfl) (fun _ _ _ h => h) (yG_call (by rfl) (fun w' => by go_simp) (fun w' hb => HHS.out w' hb)) ?_
                                    (try simp only [Act.put, List.getElem_toArray, List.getElem_cons_succ, List.getElem_cons_zero, List.setIfInBounds_toArray, List.set_cons_zero, List.set_cons_succ])
                                    refine wpGrA_end (by kernel_rfl) ?_
                                    intro w9 hb5
                                    simp only [List.drop_succ_cons, List.drop_zero]
                                    have HB9 := hid (HBY.out.trans (hb5.mono HBY.out.size))
                                    clear hb5
                                    go_wp2
                                    go_ret
                                    exact ⟨by rw [HF.out]; rfl, HB14.out.trans (HB9.out.mono HB14.out.size)⟩
                                · rw [decide_eq_false hu2] at HU2
                                  go_upto_region 26 with fail
                                  refine wp_region_grA 32 (by kernel_rfl) (by decide) ?_
                                  refine wpGrA_take (i := 0) (.slice (some ⟨b, o, none⟩) tn c) rfl (by kernel_rfl) (by kernel_rfl) (fun _ _ _ h => h) (yG_val _ (by rfl) (fun w' _ => by (go_simp; try rfl))) ?_
                                  (try simp only [Act.put, List.getElem_toArray, List.getElem_cons_succ, List.getElem_cons_zero, List.setIfInBounds_toArray, List.set_cons_zero, List.set_cons_succ])
                                  refine wpGrA_take (i := 1) (.int .i64 (y : Int)) rfl (by kernel_rfl) (by kernel_rfl) (fun _ _ _ h => h) (yG_val _ (by rfl) (fun w' _ => by (go_simp; try rfl))) ?_
                                  (try simp only [Act.put, List.getElem_toArray, List.getElem_cons_succ, List.getElem_cons_zero, List.setIfInBounds_toArray, List.set_cons_zero, List.set_cons_succ])
                                  refine wpGrA_take (i := 2) (.pointer (some ⟨b, o + y * 10, none⟩)) rfl (by kernel_rfl) (by kernel_rfl) (fun _ _ _ h => h) (yG_val _ (by rfl) (fun w' _ => by (go_simp; try rfl))) ?_
                                  (try simp only [Act.put, List.getElem_toArray, List.getElem_cons_succ, List.getElem_cons_zero, List.setIfInBounds_toArray, List.set_cons_zero, List.set_cons_succ])
                                  refine wpGrA_take (i := 3) (.pointer (some ⟨b, o + y * 10, none⟩)) rfl (by kernel_rfl) (by kernel_rfl) (fun _ _ _ h => h) (yG_val _ (by rfl) (fun w' _ => by (go_simp; try rfl))) ?_
                                  (try simp only [Act.put, List.getElem_toArray, List.getElem_cons_succ, List.getElem_cons_zero, List.setIfInBounds_toArray, List.set_cons_zero, List.set_cons_succ])
                                  refine wpGrA_take (i := 4) (.int .u8 (ky : Int)) rfl (by kernel_rfl) (by kernel_rfl) (fun _ _ _ h => h) (yG_val _ (by rfl) (fun w' hb => by have h0 := HKY.out w' hb; (go_simp; try rfl))) ?_
                                  (try simp only [Act.put, List.getElem_toArray, List.getElem_cons_succ, List.getElem_cons_zero, List.setIfInBounds_toArray, List.set_cons_zero, List.set_cons_succ])
                                  refine wpGrA_take (i := 5) (.bool true) rfl (by kernel_rfl) (by kernel_rfl) (fun _ _ _ h => h) (yG_val _ (by rfl) (fun w' _ => by (go_simp; try rfl))) ?_
                                  (try simp only [Act.put, List.getElem_toArray, List.getElem_cons_succ, List.getElem_cons_zero, List.setIfInBounds_toArray, List.set_cons_zero, List.set_cons_succ])
                                  refine wpGrA_take (i := 6) (.bool true) rfl (by kernel_rfl) (by kernel_rfl) (fun _ _ _ h => h) (yG_val _ (by rfl) (fun w' _ => by (go_simp; try rfl))) ?_
                                  (try simp only [Act.put, List.getElem_toArray, List.getElem_cons_succ, List.getElem_cons_zero, List.setIfInBounds_toArray, List.set_cons_zero, List.set_cons_succ])
                                  refine wpGrA_take (i := 7) (.slice (some ⟨lb, lo, none⟩) Ln LC) rfl (by kernel_rfl) (by kernel_rfl) (fun _ _ _ h => h) (yG_val _ (by rfl) (fun w' _ => by (go_simp; try rfl))) ?_
                                  (try simp only [Act.put, List.getElem_toArray, List.getElem_cons_succ, List.getElem_cons_zero, List.setIfInBounds_toArray, List.set_cons_zero, List.set_cons_succ])
                                  refine wpGrA_take (i := 8) (.int .i64 (m : Int)) rfl (by kernel_rfl) (by kernel_rfl) (fun _ _ _ h => h) (yG_val _ (by rfl) (fun w' _ => by (go_simp; try rfl))) ?_
                                  (try simp only [Act.put, List.getElem_toArray, List.getElem_cons_succ, List.getElem_cons_zero, List.setIfInBounds_toArray, List.set_cons_zero, List.set_cons_succ])
                                  refine wpGrA_take (i := 9) (.pointer (some ⟨lb, lo + m, none⟩)) rfl (by kernel_rfl) (by kernel_rfl) (fun _ _ _ h => h) (yG_val _ (by rfl) (fun w' _ => by (go_simp; try rfl))) ?_
                                  (try simp only [Act.put, List.getElem_toArray, List.getElem_cons_succ, List.getElem_cons_zero, List.setIfInBounds_toArray, List.set_cons_zero, List.set_cons_succ])
                                  refine wpGrA_take (i := 10) (.int .i64 (p : Int)) rfl (by kernel_rfl) (by kernel_rfl) (fun _ _ _ h => h) (yG_val _ (by rfl) (fun w' hb => by have h0 := HCV.out w' hb; (go_simp; try rfl))) ?_
                                  (try simp only [Act.put, List.getElem_toArray, List.getElem_cons_succ, List.getElem_cons_zero, List.setIfInBounds_toArray, List.set_cons_zero, List.set_cons_succ])
                                  refine wpGrA_take (i := 11) (.int .i64 (d : Int)) rfl (by kernel_rfl) (by kernel_rfl) (fun _ _ _ h => h) (yG_val _ (by rfl) (fun w' _ => by (go_simp; first | done | rfl | exact (IntWalk.i64_left _).trans hwd))) ?_
                                  (try simp only [Act.put, List.getElem_toArray, List.getElem_cons_succ, List.getElem_cons_zero, List.setIfInBounds_toArray, List.set_cons_zero, List.set_cons_succ])
                                  refine wpGrA_take (i := 12) (.int .i64 (y : Int)) rfl (by kernel_rfl) (by kernel_rfl) (fun _ _ _ h => h) (yG_val _ (by rfl) (fun w' _ => by (go_simp; try rfl))) ?_
                                  (try simp only [Act.put, List.getElem_toArray, List.getElem_cons_succ, List.getElem_cons_zero, List.setIfInBounds_toArray, List.set_cons_zero, List.set_cons_succ])
                                  refine wpGrA_take (i := 13) (.bool true) rfl (by kernel_rfl) (by kernel_rfl) (fun _ _ _ h => h) (yG_call (by rfl) (fun w' => by go_simp) (fun w' hb => HU1.out w' hb)) ?_
                                  (try simp only [Act.put, List.getElem_toArray, List.getElem_cons_succ, List.getElem_cons_zero, List.setIfInBounds_toArray, List.set_cons_zero, List.set_cons_succ])
                                  refine wpGrA_take (i := 14) (.bool true) rfl (by kernel_rfl) (by kernel_rfl) (fun _ _ _ h => h) (yG_val _ (by rfl) (fun w' _ => by (go_simp; try rfl))) ?_
                                  (try simp only [Act.put, List.getElem_toArray, List.getElem_cons_succ, List.getElem_cons_zero, List.setIfInBounds_toArray, List.set_cons_zero, List.set_cons_succ])
                                  refine wpGrA_take (i := 15) (.bool true) rfl (by kernel_rfl) (by kernel_rfl) (fun _ _ _ h => h) (yG_val _ (by rfl) (fun w' _ => by (go_simp; try rfl))) ?_
                                  (try simp only [Act.put, List.getElem_toArray, List.getElem_cons_succ, List.getElem_cons_zero, List.setIfInBounds_toArray, List.set_cons_zero, List.set_cons_succ])
                                  refine wpGrA_take (i := 16) (.int .i64 (y : Int)) rfl (by kernel_rfl) (by kernel_rfl) (fun _ _ _ h => h) (yG_val _ (by rfl) (fun w' _ => by (go_simp; try rfl))) ?_
                                  (try simp only [Act.put, List.getElem_toArray, List.getElem_cons_succ, List.getElem_cons_zero, List.setIfInBounds_toArray, List.set_cons_zero, List.set_cons_succ])
                                  refine wpGrA_take (i := 17) (.int .i64 (x : Int)) rfl (by kernel_rfl) (by kernel_rfl) (fun _ _ _ h => h) (yG_val _ (by rfl) (fun w' _ => by (go_simp; try rfl))) ?_
                                  (try simp only [Act.put, List.getElem_toArray, List.getElem_cons_succ, List.getElem_cons_zero, List.setIfInBounds_toArray, List.set_cons_zero, List.set_cons_succ])
                                  refine wpGrA_take (i := 18) (.bool false) rfl (by kernel_rfl) (by kernel_rfl) (fun _ _ _ h => h) (yG_call (by rfl) (fun w' => by go_simp) (fun w' hb => HU2.out w' hb)) ?_
                                  (try simp only [Act.put, List.getElem_toArray, List.getElem_cons_succ, List.getElem_cons_zero, List.setIfInBounds_toArray, List.set_cons_zero, List.set_cons_succ])
                                  refine wpGrA_take (i := 19) (.bool false) rfl (by kernel_rfl) (by kernel_rfl) (fun _ _ _ h => h) (yG_val _ (by rfl) (fun w' _ => by (go_simp; try rfl))) ?_
                                  (try simp only [Act.put, List.getElem_toArray, List.getElem_cons_succ, List.getElem_cons_zero, List.setIfInBounds_toArray, List.set_cons_zero, List.set_cons_succ])
                                  refine wpGrA_take (i := 20) (.bool false) rfl (by kernel_rfl) (by kernel_rfl) (fun _ _ _ h => h) (yG_val _ (by rfl) (fun w' _ => by (go_simp; try rfl))) ?_
                                  (try simp only [Act.put, List.getElem_toArray, List.getElem_cons_succ, List.getElem_cons_zero, List.setIfInBounds_toArray, List.set_cons_zero, List.set_cons_succ])
                                  refine wpGrA_take (i := 21) (undef) rfl (by kernel_rfl) (by kernel_rfl) (fun _ _ _ h => h) (yG_skip (by rfl)) ?_
                                  (try simp only [Act.put, List.getElem_toArray, List.getElem_cons_succ, List.getElem_cons_zero, List.setIfInBounds_toArray, List.set_cons_zero, List.set_cons_succ])
                                  refine wpGrA_take (i := 22) (undef) rfl (by kernel_rfl) (by kernel_rfl) (fun _ _ _ h => h) (yG_skip (by rfl)) ?_
                                  (try simp only [Act.put, List.getElem_toArray, List.getElem_cons_succ, List.getElem_cons_zero, List.setIfInBounds_toArray, List.set_cons_zero, List.set_cons_succ])
                                  refine wpGrA_take (i := 23) (undef) rfl (by kernel_rfl) (by kernel_rfl) (fun _ _ _ h => h) (yG_skip (by rfl)) ?_
                                  (try simp only [Act.put, List.getElem_toArray, List.getElem_cons_succ, List.getElem_cons_zero, List.setIfInBounds_toArray, List.set_cons_zero, List.set_cons_succ])
                                  refine wpGrA_take (i := 24) (undef) rfl (by kernel_rfl) (by kernel_rfl) (fun _ _ _ h => h) (yG_skip (by rfl)) ?_
                                  (try simp only [Act.put, List.getElem_toArray, List.getElem_cons_succ, List.getElem_cons_zero, List.setIfInBounds_toArray, List.set_cons_zero, List.set_cons_succ])
                                  refine wpGrA_take (i := 25) (undef) rfl (by kernel_rfl) (by kernel_rfl) (fun _ _ _ h => h) (yG_skip (by rfl)) ?_
                                  (try simp only [Act.put, List.getElem_toArray, List.getElem_cons_succ, List.getElem_cons_zero, List.setIfInBounds_toArray, List.set_cons_zero, List.set_cons_succ])
                                  refine wpGrA_take (i := 26) (undef) rfl (by kernel_rfl) (by kernel_rfl) (fun _ _ _ h => h) (yG_skip (by rfl)) ?_
                                  (try simp only [Act.put, List.getElem_toArray, List.getElem_cons_succ, List.getElem_cons_zero, List.setIfInBounds_toArray, List.set_cons_zero, List.set_cons_succ])
                                  refine wpGrA_take (i := 27) (undef) rfl (by kernel_rfl) (by kernel_rfl) (fun _ _ _ h => h) (yG_skip (by rfl)) ?_
                                  (try simp only [Act.put, List.getElem_toArray, List.getElem_cons_succ, List.getElem_cons_zero, List.setIfInBounds_toArray, List.set_cons_zero, List.set_cons_succ])
                                  refine wpGrA_take (i := 28) (undef) rfl (by kernel_rfl) (by kernel_rfl) (fun _ _ _ h => h) (yG_skip (by rfl)) ?_
                                  (try simp only [Act.put, List.getElem_toArray, List.getElem_cons_succ, List.getElem_cons_zero, List.setIfInBounds_toArray, List.set_cons_zero, List.set_cons_succ])
                                  refine wpGrA_take (i := 29) (undef) rfl (by kernel_rfl) (by kernel_rfl) (fun _ _ _ h => h) (yG_skip (by rfl)) ?_
                                  (try simp only [Act.put, List.getElem_toArray, List.getElem_cons_succ, List.getElem_cons_zero, List.setIfInBounds_toArray, List.set_cons_zero, List.set_cons_succ])
                                  refine wpGrA_take (i := 30) (undef) rfl (by kernel_rfl) (by kernel_rfl) (fun _ _ _ h => h) (yG_skip (by rfl)) ?_
                                  (try simp only [Act.put, List.getElem_toArray, List.getElem_cons_succ, List.getElem_cons_zero, List.setIfInBounds_toArray, List.set_cons_zero, List.set_cons_succ])
                                  refine wpGrA_take (i := 31) (undef) rfl (by kernel_rfl) (by kernel_rfl) (fun _ _ _ h => h) (yG_skip (by rfl)) ?_
                                  (try simp only [Act.put, List.getElem_toArray, List.getElem_cons_succ, List.getElem_cons_zero, List.setIfInBounds_toArray, List.set_cons_zero, List.set_cons_succ])
                                  refine wpGrA_end (by kernel_rfl) ?_
                                  intro w9 hb5
                                  simp only [List.drop_succ_cons, List.drop_zero]
                                  have HB9 := hid (HBY.out.trans (hb5.mono HBY.out.size))
                                  clear hb5
                                  have hwy := HWY.out
                                  go_wp2
                                  have hy := HY.out; have hylt := HYLT.out
                                  have htn := HTN.out; have hLn := HLN.out
                                  subst htn; subst hLn
                                  go_roundg (t.length - (y + 1))
                                  case measure => clear hwy; omega
                                  case rel => exact ⟨y + 1, by clear hwy; omega, by first | rfl | (rw [hwy]; rfl), HSTEP.out (fun _ _ h => absurd h hu2), HB9.out⟩
                              · rw [decide_eq_false hu1] at HU1
                                go_upto_region 26 with fail
                                refine wp_region_grA 32 (by kernel_rfl) (by decide) ?_
                                refine wpGrA_take (i := 0) (.slice (some ⟨b, o, none⟩) tn c) rfl (by kernel_rfl) (by kernel_rfl) (fun _ _ _ h => h) (yG_val _ (by rfl) (fun w' _ => by (go_simp; try rfl))) ?_
                                (try simp only [Act.put, List.getElem_toArray, List.getElem_cons_succ, List.getElem_cons_zero, List.setIfInBounds_toArray, List.set_cons_zero, List.set_cons_succ])
                                refine wpGrA_take (i := 1) (.int .i64 (y : Int)) rfl (by kernel_rfl) (by kernel_rfl) (fun _ _ _ h => h) (yG_val _ (by rfl) (fun w' _ => by (go_simp; try rfl))) ?_
                                (try simp only [Act.put, List.getElem_toArray, List.getElem_cons_succ, List.getElem_cons_zero, List.setIfInBounds_toArray, List.set_cons_zero, List.set_cons_succ])
                                refine wpGrA_take (i := 2) (.pointer (some ⟨b, o + y * 10, none⟩)) rfl (by kernel_rfl) (by kernel_rfl) (fun _ _ _ h => h) (yG_val _ (by rfl) (fun w' _ => by (go_simp; try rfl))) ?_
                                (try simp only [Act.put, List.getElem_toArray, List.getElem_cons_succ, List.getElem_cons_zero, List.setIfInBounds_toArray, List.set_cons_zero, List.set_cons_succ])
                                refine wpGrA_take (i := 3) (.pointer (some ⟨b, o + y * 10, none⟩)) rfl (by kernel_rfl) (by kernel_rfl) (fun _ _ _ h => h) (yG_val _ (by rfl) (fun w' _ => by (go_simp; try rfl))) ?_
                                (try simp only [Act.put, List.getElem_toArray, List.getElem_cons_succ, List.getElem_cons_zero, List.setIfInBounds_toArray, List.set_cons_zero, List.set_cons_succ])
                                refine wpGrA_take (i := 4) (.int .u8 (ky : Int)) rfl (by kernel_rfl) (by kernel_rfl) (fun _ _ _ h => h) (yG_val _ (by rfl) (fun w' hb => by have h0 := HKY.out w' hb; (go_simp; try rfl))) ?_
                                (try simp only [Act.put, List.getElem_toArray, List.getElem_cons_succ, List.getElem_cons_zero, List.setIfInBounds_toArray, List.set_cons_zero, List.set_cons_succ])
                                refine wpGrA_take (i := 5) (.bool true) rfl (by kernel_rfl) (by kernel_rfl) (fun _ _ _ h => h) (yG_val _ (by rfl) (fun w' _ => by (go_simp; try rfl))) ?_
                                (try simp only [Act.put, List.getElem_toArray, List.getElem_cons_succ, List.getElem_cons_zero, List.setIfInBounds_toArray, List.set_cons_zero, List.set_cons_succ])
                                refine wpGrA_take (i := 6) (.bool true) rfl (by kernel_rfl) (by kernel_rfl) (fun _ _ _ h => h) (yG_val _ (by rfl) (fun w' _ => by (go_simp; try rfl))) ?_
                                (try simp only [Act.put, List.getElem_toArray, List.getElem_cons_succ, List.getElem_cons_zero, List.setIfInBounds_toArray, List.set_cons_zero, List.set_cons_succ])
                                refine wpGrA_take (i := 7) (.slice (some ⟨lb, lo, none⟩) Ln LC) rfl (by kernel_rfl) (by kernel_rfl) (fun _ _ _ h => h) (yG_val _ (by rfl) (fun w' _ => by (go_simp; try rfl))) ?_
                                (try simp only [Act.put, List.getElem_toArray, List.getElem_cons_succ, List.getElem_cons_zero, List.setIfInBounds_toArray, List.set_cons_zero, List.set_cons_succ])
                                refine wpGrA_take (i := 8) (.int .i64 (m : Int)) rfl (by kernel_rfl) (by kernel_rfl) (fun _ _ _ h => h) (yG_val _ (by rfl) (fun w' _ => by (go_simp; try rfl))) ?_
                                (try simp only [Act.put, List.getElem_toArray, List.getElem_cons_succ, List.getElem_cons_zero, List.setIfInBounds_toArray, List.set_cons_zero, List.set_cons_succ])
                                refine wpGrA_take (i := 9) (.pointer (some ⟨lb, lo + m, none⟩)) rfl (by kernel_rfl) (by kernel_rfl) (fun _ _ _ h => h) (yG_val _ (by rfl) (fun w' _ => by (go_simp; try rfl))) ?_
                                (try simp only [Act.put, List.getElem_toArray, List.getElem_cons_succ, List.getElem_cons_zero, List.setIfInBounds_toArray, List.set_cons_zero, List.set_cons_succ])
                                refine wpGrA_take (i := 10) (.int .i64 (p : Int)) rfl (by kernel_rfl) (by kernel_rfl) (fun _ _ _ h => h) (yG_val _ (by rfl) (fun w' hb => by have h0 := HCV.out w' hb; (go_simp; try rfl))) ?_
                                (try simp only [Act.put, List.getElem_toArray, List.getElem_cons_succ, List.getElem_cons_zero, List.setIfInBounds_toArray, List.set_cons_zero, List.set_cons_succ])
                                refine wpGrA_take (i := 11) (.int .i64 (d : Int)) rfl (by kernel_rfl) (by kernel_rfl) (fun _ _ _ h => h) (yG_val _ (by rfl) (fun w' _ => by (go_simp; first | done | rfl | exact (IntWalk.i64_left _).trans hwd))) ?_
                                (try simp only [Act.put, List.getElem_toArray, List.getElem_cons_succ, List.getElem_cons_zero, List.setIfInBounds_toArray, List.set_cons_zero, List.set_cons_succ])
                                refine wpGrA_take (i := 12) (.int .i64 (y : Int)) rfl (by kernel_rfl) (by kernel_rfl) (fun _ _ _ h => h) (yG_val _ (by rfl) (fun w' _ => by (go_simp; try rfl))) ?_
                                (try simp only [Act.put, List.getElem_toArray, List.getElem_cons_succ, List.getElem_cons_zero, List.setIfInBounds_toArray, List.set_cons_zero, List.set_cons_succ])
                                refine wpGrA_take (i := 13) (.bool false) rfl (by kernel_rfl) (by kernel_rfl) (fun _ _ _ h => h) (yG_call (by rfl) (fun w' => by go_simp) (fun w' hb => HU1.out w' hb)) ?_
                                (try simp only [Act.put, List.getElem_toArray, List.getElem_cons_succ, List.getElem_cons_zero, List.setIfInBounds_toArray, List.set_cons_zero, List.set_cons_succ])
                                refine wpGrA_take (i := 14) (.bool false) rfl (by kernel_rfl) (by kernel_rfl) (fun _ _ _ h => h) (yG_val _ (by rfl) (fun w' _ => by (go_simp; try rfl))) ?_
                                (try simp only [Act.put, List.getElem_toArray, List.getElem_cons_succ, List.getElem_cons_zero, List.setIfInBounds_toArray, List.set_cons_zero, List.set_cons_succ])
                                refine wpGrA_take (i := 15) (.bool false) rfl (by kernel_rfl) (by kernel_rfl) (fun _ _ _ h => h) (yG_val _ (by rfl) (fun w' _ => by (go_simp; try rfl))) ?_
                                (try simp only [Act.put, List.getElem_toArray, List.getElem_cons_succ, List.getElem_cons_zero, List.setIfInBounds_toArray, List.set_cons_zero, List.set_cons_succ])
                                refine wpGrA_take (i := 16) (undef) rfl (by kernel_rfl) (by kernel_rfl) (fun _ _ _ h => h) (yG_skip (by rfl)) ?_
                                (try simp only [Act.put, List.getElem_toArray, List.getElem_cons_succ, List.getElem_cons_zero, List.setIfInBounds_toArray, List.set_cons_zero, List.set_cons_succ])
                                refine wpGrA_take (i := 17) (undef) rfl (by kernel_rfl) (by kernel_rfl) (fun _ _ _ h => h) (yG_skip (by rfl)) ?_
                                (try simp only [Act.put, List.getElem_toArray, List.getElem_cons_succ, List.getElem_cons_zero, List.setIfInBounds_toArray, List.set_cons_zero, List.set_cons_succ])
                                refine wpGrA_take (i := 18) (undef) rfl (by kernel_rfl) (by kernel_rfl) (fun _ _ _ h => h) (yG_skip (by rfl)) ?_
                                (try simp only [Act.put, List.getElem_toArray, List.getElem_cons_succ, List.getElem_cons_zero, List.setIfInBounds_toArray, List.set_cons_zero, List.set_cons_succ])
                                refine wpGrA_take (i := 19) (.bool false) rfl (by kernel_rfl) (by kernel_rfl) (fun _ _ _ h => h) (yG_val _ (by rfl) (fun w' _ => by (go_simp; try rfl))) ?_
                                (try simp only [Act.put, List.getElem_toArray, List.getElem_cons_succ, List.getElem_cons_zero, List.setIfInBounds_toArray, List.set_cons_zero, List.set_cons_succ])
                                refine wpGrA_take (i := 20) (.bool false) rfl (by kernel_rfl) (by kernel_rfl) (fun _ _ _ h => h) (yG_val _ (by rfl) (fun w' _ => by (go_simp; try rfl))) ?_
                                (try simp only [Act.put, List.getElem_toArray, List.getElem_cons_succ, List.getElem_cons_zero, List.setIfInBounds_toArray, List.set_cons_zero, List.set_cons_succ])
                                refine wpGrA_take (i := 21) (undef) rfl (by kernel_rfl) (by kernel_rfl) (fun _ _ _ h => h) (yG_skip (by rfl)) ?_
                                (try simp only [Act.put, List.getElem_toArray, List.getElem_cons_succ, List.getElem_cons_zero, List.setIfInBounds_toArray, List.set_cons_zero, List.set_cons_succ])
                                refine wpGrA_take (i := 22) (undef) rfl (by kernel_rfl) (by kernel_rfl) (fun _ _ _ h => h) (yG_skip (by rfl)) ?_
                                (try simp only [Act.put, List.getElem_toArray, List.getElem_cons_succ, List.getElem_cons_zero, List.setIfInBounds_toArray, List.set_cons_zero, List.set_cons_succ])
                                refine wpGrA_take (i := 23) (undef) rfl (by kernel_rfl) (by kernel_rfl) (fun _ _ _ h => h) (yG_skip (by rfl)) ?_
                                (try simp only [Act.put, List.getElem_toArray, List.getElem_cons_succ, List.getElem_cons_zero, List.setIfInBounds_toArray, List.set_cons_zero, List.set_cons_succ])
                                refine wpGrA_take (i := 24) (undef) rfl (by kernel_rfl) (by kernel_rfl) (fun _ _ _ h => h) (yG_skip (by rfl)) ?_
                                (try simp only [Act.put, List.getElem_toArray, List.getElem_cons_succ, List.getElem_cons_zero, List.setIfInBounds_toArray, List.set_cons_zero, List.set_cons_succ])
                                refine wpGrA_take (i := 25) (undef) rfl (by kernel_rfl) (by kernel_rfl) (fun _ _ _ h => h) (yG_skip (by rfl)) ?_
                                (try simp only [Act.put, List.getElem_toArray, List.getElem_cons_succ, List.getElem_cons_zero, List.setIfInBounds_toArray, List.set_cons_zero, List.set_cons_succ])
                                refine wpGrA_take (i := 26) (undef) rfl (by kernel_rfl) (by kernel_rfl) (fun _ _ _ h => h) (yG_skip (by rfl)) ?_
                                (try simp only [Act.put, List.getElem_toArray, List.getElem_cons_succ, List.getElem_cons_zero, List.setIfInBounds_toArray, List.set_cons_zero, List.set_cons_succ])
                                refine wpGrA_take (i := 27) (undef) rfl (by kernel_rfl) (by kernel_rfl) (fun _ _ _ h => h) (yG_skip (by rfl)) ?_
                                (try simp only [Act.put, List.getElem_toArray, List.getElem_cons_succ, List.getElem_cons_zero, List.setIfInBounds_toArray, List.set_cons_zero, List.set_cons_succ])
                                refine wpGrA_take (i := 28) (undef) rfl (by kernel_rfl) (by kernel_rfl) (fun _ _ _ h => h) (yG_skip (by rfl)) ?_
                                (try simp only [Act.put, List.getElem_toArray, List.getElem_cons_succ, List.getElem_cons_zero, List.setIfInBounds_toArray, List.set_cons_zero, List.set_cons_succ])
                                refine wpGrA_take (i := 29) (undef) rfl (by kernel_rfl) (by kernel_rfl) (fun _ _ _ h => h) (yG_skip (by rfl)) ?_
                                (try simp only [Act.put, List.getElem_toArray, List.getElem_cons_succ, List.getElem_cons_zero, List.setIfInBounds_toArray, List.set_cons_zero, List.set_cons_succ])
                                refine wpGrA_take (i := 30) (undef) rfl (by kernel_rfl) (by kernel_rfl) (fun _ _ _ h => h) (yG_skip (by rfl)) ?_
                                (try simp only [Act.put, List.getElem_toArray, List.getElem_cons_succ, List.getElem_cons_zero, List.setIfInBounds_toArray, List.set_cons_zero, List.set_cons_succ])
                                refine wpGrA_take (i := 31) (undef) rfl (by kernel_rfl) (by kernel_rfl) (fun _ _ _ h => h) (yG_skip (by rfl)) ?_
                                (try simp only [Act.put, List.getElem_toArray, List.getElem_cons_succ, List.getElem_cons_zero, List.setIfInBounds_toArray, List.set_cons_zero, List.set_cons_succ])
                                refine wpGrA_end (by kernel_rfl) ?_
                                intro w9 hb5
                                simp only [List.drop_succ_cons, List.drop_zero]
                                have HB9 := hid (HBY.out.trans (hb5.mono HBY.out.size))
                                clear hb5
                                have hwy := HWY.out
                                go_wp2
                                have hy := HY.out; have hylt := HYLT.out
                                have htn := HTN.out; have hLn := HLN.out
                                subst htn; subst hLn
                                go_roundg (t.length - (y + 1))
                                case measure => clear hwy; omega
                                case rel => exact ⟨y + 1, by clear hwy; omega, by first | rfl | (rw [hwy]; rfl), HSTEP.out (fun _ h _ => absurd h hu1), HB9.out⟩
                            · have hk2i : ((ky : Int) == 2) = false := by rw [beq_eq_false_iff_ne]; omega
                              go_upto_region 26 with fail
                              refine wp_region_grA 32 (by kernel_rfl) (by decide) ?_
                              refine wpGrA_take (i := 0) (.slice (some ⟨b, o, none⟩) tn c) rfl (by kernel_rfl) (by kernel_rfl) (fun _ _ _ h => h) (yG_val _ (by rfl) (fun w' _ => by (go_simp; try rfl))) ?_
                              (try simp only [Act.put, List.getElem_toArray, List.getElem_cons_succ, List.getElem_cons_zero, List.setIfInBounds_toArray, List.set_cons_zero, List.set_cons_succ])
                              refine wpGrA_take (i := 1) (.int .i64 (y : Int)) rfl (by kernel_rfl) (by kernel_rfl) (fun _ _ _ h => h) (yG_val _ (by rfl) (fun w' _ => by (go_simp; try rfl))) ?_
                              (try simp only [Act.put, List.getElem_toArray, List.getElem_cons_succ, List.getElem_cons_zero, List.setIfInBounds_toArray, List.set_cons_zero, List.set_cons_succ])
                              refine wpGrA_take (i := 2) (.pointer (some ⟨b, o + y * 10, none⟩)) rfl (by kernel_rfl) (by kernel_rfl) (fun _ _ _ h => h) (yG_val _ (by rfl) (fun w' _ => by (go_simp; try rfl))) ?_
                              (try simp only [Act.put, List.getElem_toArray, List.getElem_cons_succ, List.getElem_cons_zero, List.setIfInBounds_toArray, List.set_cons_zero, List.set_cons_succ])
                              refine wpGrA_take (i := 3) (.pointer (some ⟨b, o + y * 10, none⟩)) rfl (by kernel_rfl) (by kernel_rfl) (fun _ _ _ h => h) (yG_val _ (by rfl) (fun w' _ => by (go_simp; try rfl))) ?_
                              (try simp only [Act.put, List.getElem_toArray, List.getElem_cons_succ, List.getElem_cons_zero, List.setIfInBounds_toArray, List.set_cons_zero, List.set_cons_succ])
                              refine wpGrA_take (i := 4) (.int .u8 (ky : Int)) rfl (by kernel_rfl) (by kernel_rfl) (fun _ _ _ h => h) (yG_val _ (by rfl) (fun w' hb => by have h0 := HKY.out w' hb; (go_simp; try rfl))) ?_
                              (try simp only [Act.put, List.getElem_toArray, List.getElem_cons_succ, List.getElem_cons_zero, List.setIfInBounds_toArray, List.set_cons_zero, List.set_cons_succ])
                              refine wpGrA_take (i := 5) (.bool false) rfl (by kernel_rfl) (by kernel_rfl) (fun _ _ _ h => h) (yG_val _ (by rfl) (fun w' _ => by (go_simp; try rfl))) ?_
                              (try simp only [Act.put, List.getElem_toArray, List.getElem_cons_succ, List.getElem_cons_zero, List.setIfInBounds_toArray, List.set_cons_zero, List.set_cons_succ])
                              refine wpGrA_take (i := 6) (.bool false) rfl (by kernel_rfl) (by kernel_rfl) (fun _ _ _ h => h) (yG_val _ (by rfl) (fun w' _ => by (go_simp; try rfl))) ?_
                              (try simp only [Act.put, List.getElem_toArray, List.getElem_cons_succ, List.getElem_cons_zero, List.setIfInBounds_toArray, List.set_cons_zero, List.set_cons_succ])
                              refine wpGrA_take (i := 7) (undef) rfl (by kernel_rfl) (by kernel_rfl) (fun _ _ _ h => h) (yG_skip (by rfl)) ?_
                              (try simp only [Act.put, List.getElem_toArray, List.getElem_cons_succ, List.getElem_cons_zero, List.setIfInBounds_toArray, List.set_cons_zero, List.set_cons_succ])
                              refine wpGrA_take (i := 8) (undef) rfl (by kernel_rfl) (by kernel_rfl) (fun _ _ _ h => h) (yG_skip (by rfl)) ?_
                              (try simp only [Act.put, List.getElem_toArray, List.getElem_cons_succ, List.getElem_cons_zero, List.setIfInBounds_toArray, List.set_cons_zero, List.set_cons_succ])
                              refine wpGrA_take (i := 9) (undef) rfl (by kernel_rfl) (by kernel_rfl) (fun _ _ _ h => h) (yG_skip (by rfl)) ?_
                              (try simp only [Act.put, List.getElem_toArray, List.getElem_cons_succ, List.getElem_cons_zero, List.setIfInBounds_toArray, List.set_cons_zero, List.set_cons_succ])
                              refine wpGrA_take (i := 10) (undef) rfl (by kernel_rfl) (by kernel_rfl) (fun _ _ _ h => h) (yG_skip (by rfl)) ?_
                              (try simp only [Act.put, List.getElem_toArray, List.getElem_cons_succ, List.getElem_cons_zero, List.setIfInBounds_toArray, List.set_cons_zero, List.set_cons_succ])
                              refine wpGrA_take (i := 11) (undef) rfl (by kernel_rfl) (by kernel_rfl) (fun _ _ _ h => h) (yG_skip (by rfl)) ?_
                              (try simp only [Act.put, List.getElem_toArray, List.getElem_cons_succ, List.getElem_cons_zero, List.setIfInBounds_toArray, List.set_cons_zero, List.set_cons_succ])
                              refine wpGrA_take (i := 12) (undef) rfl (by kernel_rfl) (by kernel_rfl) (fun _ _ _ h => h) (yG_skip (by rfl)) ?_
                              (try simp only [Act.put, List.getElem_toArray, List.getElem_cons_succ, List.getElem_cons_zero, List.setIfInBounds_toArray, List.set_cons_zero, List.set_cons_succ])
                              refine wpGrA_take (i := 13) (undef) rfl (by kernel_rfl) (by kernel_rfl) (fun _ _ _ h => h) (yG_skip (by rfl)) ?_
                              (try simp only [Act.put, List.getElem_toArray, List.getElem_cons_succ, List.getElem_cons_zero, List.setIfInBounds_toArray, List.set_cons_zero, List.set_cons_succ])
                              refine wpGrA_take (i := 14) (.bool false) rfl (by kernel_rfl) (by kernel_rfl) (fun _ _ _ h => h) (yG_val _ (by rfl) (fun w' _ => by (go_simp; try rfl))) ?_
                              (try simp only [Act.put, List.getElem_toArray, List.getElem_cons_succ, List.getElem_cons_zero, List.setIfInBounds_toArray, List.set_cons_zero, List.set_cons_succ])
                              refine wpGrA_take (i := 15) (.bool false) rfl (by kernel_rfl) (by kernel_rfl) (fun _ _ _ h => h) (yG_val _ (by rfl) (fun w' _ => by (go_simp; try rfl))) ?_
                              (try simp only [Act.put, List.getElem_toArray, List.getElem_cons_succ, List.getElem_cons_zero, List.setIfInBounds_toArray, List.set_cons_zero, List.set_cons_succ])
                              refine wpGrA_take (i := 16) (undef) rfl (by kernel_rfl) (by kernel_rfl) (fun _ _ _ h => h) (yG_skip (by rfl)) ?_
                              (try simp only [Act.put, List.getElem_toArray, List.getElem_cons_succ, List.getElem_cons_zero, List.setIfInBounds_toArray, List.set_cons_zero, List.set_cons_succ])
                              refine wpGrA_take (i := 17) (undef) rfl (by kernel_rfl) (by kernel_rfl) (fun _ _ _ h => h) (yG_skip (by rfl)) ?_
                              (try simp only [Act.put, List.getElem_toArray, List.getElem_cons_succ, List.getElem_cons_zero, List.setIfInBounds_toArray, List.set_cons_zero, List.set_cons_succ])
                              refine wpGrA_take (i := 18) (undef) rfl (by kernel_rfl) (by kernel_rfl) (fun _ _ _ h => h) (yG_skip (by rfl)) ?_
                              (try simp only [Act.put, List.getElem_toArray, List.getElem_cons_succ, List.getElem_cons_zero, List.setIfInBounds_toArray, List.set_cons_zero, List.set_cons_succ])
                              refine wpGrA_take (i := 19) (.bool false) rfl (by kernel_rfl) (by kernel_rfl) (fun _ _ _ h => h) (yG_val _ (by rfl) (fun w' _ => by (go_simp; try rfl))) ?_
                              (try simp only [Act.put, List.getElem_toArray, List.getElem_cons_succ, List.getElem_cons_zero, List.setIfInBounds_toArray, List.set_cons_zero, List.set_cons_succ])
                              refine wpGrA_take (i := 20) (.bool false) rfl (by kernel_rfl) (by kernel_rfl) (fun _ _ _ h => h) (yG_val _ (by rfl) (fun w' _ => by (go_simp; try rfl))) ?_
                              (try simp only [Act.put, List.getElem_toArray, List.getElem_cons_succ, List.getElem_cons_zero, List.setIfInBounds_toArray, List.set_cons_zero, List.set_cons_succ])
                              refine wpGrA_take (i := 21) (undef) rfl (by kernel_rfl) (by kernel_rfl) (fun _ _ _ h => h) (yG_skip (by rfl)) ?_
                              (try simp only [Act.put, List.getElem_toArray, List.getElem_cons_succ, List.getElem_cons_zero, List.setIfInBounds_toArray, List.set_cons_zero, List.set_cons_succ])
                              refine wpGrA_take (i := 22) (undef) rfl (by kernel_rfl) (by kernel_rfl) (fun _ _ _ h => h) (yG_skip (by rfl)) ?_
                              (try simp only [Act.put, List.getElem_toArray, List.getElem_cons_succ, List.getElem_cons_zero, List.setIfInBounds_toArray, List.set_cons_zero, List.set_cons_succ])
                              refine wpGrA_take (i := 23) (undef) rfl (by kernel_rfl) (by kernel_rfl) (fun _ _ _ h => h) (yG_skip (by rfl)) ?_
                              (try simp only [Act.put, List.getElem_toArray, List.getElem_cons_succ, List.getElem_cons_zero, List.setIfInBounds_toArray, List.set_cons_zero, List.set_cons_succ])
                              refine wpGrA_take (i := 24) (undef) rfl (by kernel_rfl) (by kernel_rfl) (fun _ _ _ h => h) (yG_skip (by rfl)) ?_
                              (try simp only [Act.put, List.getElem_toArray, List.getElem_cons_succ, List.getElem_cons_zero, List.setIfInBounds_toArray, List.set_cons_zero, List.set_cons_succ])
                              refine wpGrA_take (i := 25) (undef) rfl (by kernel_rfl) (by kernel_rfl) (fun _ _ _ h => h) (yG_skip (by rfl)) ?_
                              (try simp only [Act.put, List.getElem_toArray, List.getElem_cons_succ, List.getElem_cons_zero, List.setIfInBounds_toArray, List.set_cons_zero, List.set_cons_succ])
                              refine wpGrA_take (i := 26) (undef) rfl (by kernel_rfl) (by kernel_rfl) (fun _ _ _ h => h) (yG_skip (by rfl)) ?_
                              (try simp only [Act.put, List.getElem_toArray, List.getElem_cons_succ, List.getElem_cons_zero, List.setIfInBounds_toArray, List.set_cons_zero, List.set_cons_succ])
                              refine wpGrA_take (i := 27) (undef) rfl (by kernel_rfl) (by kernel_rfl) (fun _ _ _ h => h) (yG_skip (by rfl)) ?_
                              (try simp only [Act.put, List.getElem_toArray, List.getElem_cons_succ, List.getElem_cons_zero, List.setIfInBounds_toArray, List.set_cons_zero, List.set_cons_succ])
                              refine wpGrA_take (i := 28) (undef) rfl (by kernel_rfl) (by kernel_rfl) (fun _ _ _ h => h) (yG_skip (by rfl)) ?_
                              (try simp only [Act.put, List.getElem_toArray, List.getElem_cons_succ, List.getElem_cons_zero, List.setIfInBounds_toArray, List.set_cons_zero, List.set_cons_succ])
                              refine wpGrA_take (i := 29) (undef) rfl (by kernel_rfl) (by kernel_rfl) (fun _ _ _ h => h) (yG_skip (by rfl)) ?_
                              (try simp only [Act.put, List.getElem_toArray, List.getElem_cons_succ, List.getElem_cons_zero, List.setIfInBounds_toArray, List.set_cons_zero, List.set_cons_succ])
                              refine wpGrA_take (i := 30) (undef) rfl (by kernel_rfl) (by kernel_rfl) (fun _ _ _ h => h) (yG_skip (by rfl)) ?_
                              (try simp only [Act.put, List.getElem_toArray, List.getElem_cons_succ, List.getElem_cons_zero, List.setIfInBounds_toArray, List.set_cons_zero, List.set_cons_succ])
                              refine wpGrA_take (i := 31) (undef) rfl (by kernel_rfl) (by kernel_rfl) (fun _ _ _ h => h) (yG_skip (by rfl)) ?_
                              (try simp only [Act.put, List.getElem_toArray, List.getElem_cons_succ, List.getElem_cons_zero, List.setIfInBounds_toArray, List.set_cons_zero, List.set_cons_succ])
                              refine wpGrA_end (by kernel_rfl) ?_
                              intro w9 hb5
                              simp only [List.drop_succ_cons, List.drop_zero]
                              have HB9 := hid (HBY.out.trans (hb5.mono HBY.out.size))
                              clear hb5
                              have hwy := HWY.out
                              go_wp2
                              have hy := HY.out; have hylt := HYLT.out
                              have htn := HTN.out; have hLn := HLN.out
                              subst htn; subst hLn
                              go_roundg (t.length - (y + 1))
                              case measure => clear hwy; omega
                              case rel => exact ⟨y + 1, by clear hwy; omega, by first | rfl | (rw [hwy]; rfl), HSTEP.out (fun h _ _ => absurd h hk2), HB9.out⟩
                          · have hge : ¬ (y : Int) < (t.length : Int) := by omega
                            obtain rfl : y = t.length := by have := HY.out; omega
                            have HOKM : Hid (∀ v ∈ L.take (m + 1), LtOk17 t K x v) := hid fun v hv => by
                              rcases HTK.out v hv with rfl | h
                              · exact ⟨p, rfl, by rw [← HKN.out]; have := HNP.out; omega, HKP.out, HBPX.out, fun z hz h1 h2 h3 => HYS.out z hz h1 h2 h3⟩
                              · exact HDONE.out v h
                            have hwm := HWM.out
                            clear hyl
                            go_wp2
                            have hmm := HMI.out; have hml := HML.out
                            go_roundg (L.length - (m + 1))
                            case measure => clear hwm; omega
                            case rel => exact ⟨m + 1, by clear hwm; omega, by first | rfl | (rw [hwm]; rfl), HOKM.out, HBX4.out.trans (HBY.out.mono HBX4.out.size)⟩
                      · rw [decide_eq_false hbx] at HU0
                        have HF : Hid (r = false) := hid (HNO.out fun h => by
                          obtain ⟨i, hi, -, -, h4, -⟩ := h.late x HXT.out _ HPM.out
                          obtain rfl : p = i := by omega
                          exact hbx h4)
                        clear hbx
                        go_wp2_with fail
                        refine (HU0.out _).mono ?_
                        rintro e w4 ⟨rfl, hb⟩
                        have HB14 := hid (HB1M.out.trans (hb.mono HB1M.out.size))
                        clear hb HU0
                        go_wp2
                        go_ret
                        exact ⟨by rw [HF.out]; rfl, HB14.out⟩
                    · have hki : ((n2.k : Int) != 1) = true := by rw [bne_iff_ne]; omega
                      have HF : Hid (r = false) := hid (HNO.out fun h => by
                        obtain ⟨i, hi, -, h3, -⟩ := h.late x HXT.out _ HPM.out
                        obtain rfl : p = i := by omega
                        exact hk1 (by rw [HKD.out]; exact h3))
                      clear hk1
                      go_wp2
                      go_ret
                      exact ⟨by rw [HF.out]; rfl, HB1M.out⟩
                · have hge : ¬ (m : Int) < (L.length : Int) := by omega
                  obtain rfl : m = L.length := by have := HMI.out; omega
                  have HALL2 : Hid (∀ y, y < x + 1 → ∀ l ∈ (nAt t y).u.late, LtOk17 t K y l) := hid fun y hy l hl => by
                    rcases Nat.lt_or_ge y x with h1 | h1
                    · exact HALL.out y h1 l hl
                    · obtain rfl : y = x := by omega
                      exact HDONE.out l (by rw [List.take_length, HLE.out]; exact hl)
                  have hwx2 := HWX.out
                  clear hml
                  go_wp2
                  have hx2 := HX.out; have hxt := HXT.out
                  go_roundg (t.length - (x + 1))
                  case measure => clear hwx2; omega
                  case rel => exact ⟨x + 1, by clear hwx2; omega, by first | rfl | (rw [hwx2]; rfl), HALL2.out, HB1M.out⟩
            · have hge : ¬ (x : Int) < (t.length : Int) := by omega
              obtain rfl : x = t.length := by have := HX.out; omega
              have HF : Hid (r = true) := hid (HYES.out ⟨HZ.out, fun x hx => (HOK.out x hx).1, fun x hx => (HOK.out x hx).2.1, fun x hx => (HOK.out x hx).2.2, HSO.out, fun x hx l hl => HALL.out x hx l hl⟩)
              clear hxt
              go_wp2
              go_ret
              exact ⟨by rw [HF.out]; rfl, HBX.out⟩
  · have HF : Hid (rgt t = false) := hid (rgt_no fun K h => hno K h.size.2 h.size.1.symm)
    rw [hn] at HLv
    clear hn hno hA hm
    go_enter Try.func10, Try.ntmps10
    go_wp2_with fail
    refine HLv.out.mono ?_
    rintro e w1 ⟨rfl, rfl⟩
    go_wp2
    go_ret
    exact ⟨by rw [HF.out]; rfl, Below.refl _ _⟩
end Go.Proofs.Ythooibljnfnnhaa
end
