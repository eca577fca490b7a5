/-
  Texts of this claim in one file: TcG, TcU, TcW.
-/
import Derived.Test.YthooibljnfnnhaaPk19
import Derived.Test.YthooibljnfnnhaaPk17
import Derived.Test.YthooibljnfnnhaaPk21
section
namespace Go.Proofs.Ythooibljnfnnhaa
open Go Go.RowKit
set_option linter.unusedVariables false
set_option linter.unusedSimpArgs false
/-- Two nodes, two trees are the same. -/
def sameN (n m : Nd) : Bool := sameNd n.k n.x n.u m.k m.x m.u
def sameT : List Nd → List Nd → Bool
  | [], [] => true
  | n :: t, m :: u => sameN n m && sameT t u
  | _, _ => false
theorem sameT_iff (t u : List Nd) : sameT t u = true ↔ t.length = u.length ∧ ∀ (j : Nat) (n m : Nd), t[j]? = some n → u[j]? = some m → sameN n m = true := by
  induction t generalizing u with
  | nil =>
    cases u with
    | nil => exact ⟨fun _ => ⟨rfl, fun j n m h => (by cases h)⟩, fun _ => rfl⟩
    | cons m u => exact ⟨fun h => (by cases h), fun h => (by cases h.1)⟩
  | cons n t ih =>
    cases u with
    | nil => exact ⟨fun h => (by cases h), fun h => (by cases h.1)⟩
    | cons m u =>
      rw [sameT, Bool.and_eq_true, ih]
      constructor
      · rintro ⟨h1, h2, h3⟩
        refine ⟨by rw [List.length_cons, List.length_cons, h2], fun j n' m' hn hm => ?_⟩
        cases j with
        | zero =>
          rw [List.getElem?_cons_zero] at hn hm
          rw [← Option.some.inj hn, ← Option.some.inj hm]; exact h1
        | succ j => exact h3 j n' m' (by rw [List.getElem?_cons_succ] at hn; exact hn) (by rw [List.getElem?_cons_succ] at hm; exact hm)
      · rintro ⟨h1, h2⟩
        exact ⟨h2 0 n m rfl rfl, by simpa using h1, fun j n' m' hn hm => h2 (j + 1) n' m' (by rw [List.getElem?_cons_succ]; exact hn) (by rw [List.getElem?_cons_succ]; exact hm)⟩
section
variable {P : Program} {ops : Array Oper}
theorem yG_mid {o : Oper} {a : Act} {w : World} (hw : Region.wanted o (yielded ops a.tmps) = true) (ty : TypeId) (x : Operand) (ho : o.op = .load ty x) (b off : Nat) (hx : a.eval x = .pointer (some ⟨b, off, none⟩)) (cs : List Value) (d : TypeDesc)
    (hc : ∀ w', Below w.heap.size w w' → w'.rangeAt b off cs) (hu : P.underlying ty = some d) (hd : d.isRow = true) (hi : (P.info? ty).map (·.size) = some cs.length) : YieldsG P ops o (.agg cs.toArray) a w :=
  yG_val _ hw fun w' hb => by
    unfold execOp
    simp only [ho, hx, Instr.loadAt, Instr.sureAddr, Sem.run_bind, Sem.run_pure, Result.andThen_ok, run_loadVar_mid w' b off ty cs d (hc w' hb) hu hd hi]
end
theorem lfM_le {x : Lf} (h : LfM x) : LfLe x := by unfold LfM at h; unfold LfLe; omega
theorem prM_le {u : Pnt} (h : PrM u) : PrLe u := by unfold PrM at h; unfold PrLe; omega
set_option maxRecDepth 100000 in
set_option maxHeartbeats 4000000 in
theorem tree_same (A : Option Addr) (t : List Nd) (ad : List NA) (c : Nat) (A2 : Option Addr) (u : List Nd) (ad2 : List NA) (c2 : Nat) (w : World) (hA : TrIn w w.heap.size A t ad) (hA2 : TrIn w w.heap.size A2 u ad2) (hm : TrM t) (hm2 : TrM u) :
    Calls Try.prog 26 #[.slice A t.length c, .slice A2 u.length c2] w (RetB w (sameT t u)) := by
  by_cases hl : t.length = u.length
  · have HA := hid hA; have HA2 := hid hA2; have HM := hid hm; have HM2 := hid hm2
    have hle := hm.1
    have hne : ((t.length : Int) != (u.length : Int)) = false := by rw [bne_eq_false_iff_eq]; omega
    have HL := hid hl
    clear hA hA2 hm hm2 hl
    go_enter Try.func26, Try.ntmps26
    go_wp2
    go_loopg [13] t.length (fun r i wr => ∃ k : Nat, k + r = t.length ∧ i = .int .i64 (k : Int) ∧ (∀ (j : Nat) (n m : Nd), j < k → t[j]? = some n → u[j]? = some m → sameN n m = true) ∧ Below w.heap.size w wr)
    case atStart => exact ⟨0, by omega, rfl, fun j n m hj => by omega, Below.refl _ _⟩
    case round =>
      obtain ⟨k, hk, rfl, hno, hb⟩ := hrel
      have HK := hid hk; have HNO := hid hno; have HB := hid hb
      have hw1 : wrap64 ((k : Int) + 1) = (k : Int) + 1 := wrap64_in (by omega) (by omega)
      clear hk hno hb hle hne
      by_cases hlt : k < t.length
      · have h1 := HA.out.up HB.out
        have h2 := HA2.out.up HB.out
        have hlt2 : k < u.length := by rw [← HL.out]; exact hlt
        obtain ⟨b, o, n, a, rfl, hbl, hn, -, hni, hr⟩ := h1.at_ hlt
        obtain ⟨b2, o2, m, d, rfl, hbl2, hm, -, hmi, hr2⟩ := h2.at_ hlt2
        have hx : (k : Int) < (t.length : Int) := by omega
        have hx2 : (k : Int) < (u.length : Int) := by omega
        have h0 : (0 : Int) ≤ (k : Int) := by omega
        have HL1 : Hid (∀ W, Below wr.heap.size wr W → W.rangeAt b (o + k * 10) (ndLL n a)) := hid fun W hb => (fun j v hv => (hb.cell (p := ⟨b, o + k * 10 + j, none⟩) hbl).trans (hr j v hv))
        have HL2 : Hid (∀ W, Below wr.heap.size wr W → W.rangeAt b2 (o2 + k * 10) (ndLL m d)) := hid fun W hb => (fun j v hv => (hb.cell (p := ⟨b2, o2 + k * 10 + j, none⟩) hbl2).trans (hr2 j v hv))
        have hnm := HM.out.2 k n hn
        have hmm := HM2.out.2 k m hm
        have HS : Hid (∀ W, Below wr.heap.size wr W → Calls Try.prog 55 #[.agg (ndW n a), .agg (ndW m d)] W (RetB W (sameN n m))) := hid fun W hb => node_same n.k n.x a.l n.u a.p m.k m.x d.l m.u d.p W (LfIn.on hni.1 hb) (PrIn.on hni.2 hb) (LfIn.on hmi.1 hb) (PrIn.on hmi.2 hb) (lfM_le hnm.1) (prM_le hnm.2.1) hnm.2.2.1 hmm.2.2.1 hmm.1.2.2.2.2.2
        have HN := hid hn; have HM' := hid hm; have HLT := hid hlt
        have HQ : Hid (sameN n m = sameN n m) := hid rfl
        obtain ⟨s, hs⟩ : ∃ s, s = sameN n m := ⟨_, rfl⟩
        have HSN := hid hs
        rw [← hs] at HS
        clear hn hm hr hr2 hlt hlt2 hni hmi hnm hmm h1 h2 hs hbl hbl2 HQ
        go_upto_region 6 with fail
        refine wp_region_grA 9 (by kernel_rfl) (by decide) ?_
        refine wpGrA_take (i := 0) (.slice (some ⟨b, o, none⟩) t.length c) rfl (by kernel_rfl) (by kernel_rfl) (fun _ _ _ h => h) (yG_val _ (by rfl) (fun w' _ => by (go_simp; try rfl))) ?_
        (try simp only [Act.put, List.getElem_toArray, List.getElem_cons_succ, List.getElem_cons_zero, List.setIfInBounds_toArray, List.set_cons_zero, List.set_cons_succ])
        refine wpGrA_take (i := 1) (.int .i64 (k : Int)) rfl (by kernel_rfl) (by kernel_rfl) (fun _ _ _ h => h) (yG_val _ (by rfl) (fun w' _ => by (go_simp; try rfl))) ?_
        (try simp only [Act.put, List.getElem_toArray, List.getElem_cons_succ, List.getElem_cons_zero, List.setIfInBounds_toArray, List.set_cons_zero, List.set_cons_succ])
        refine wpGrA_take (i := 2) (.pointer (some ⟨b, o + k * 10, none⟩)) rfl (by kernel_rfl) (by kernel_rfl) (fun _ _ _ h => h) (yG_val _ (by rfl) (fun w' _ => by (go_simp; try rfl))) ?_
        (try simp only [Act.put, List.getElem_toArray, List.getElem_cons_succ, List.getElem_cons_zero, List.setIfInBounds_toArray, List.set_cons_zero, List.set_cons_succ])
        refine wpGrA_take (i := 3) (.agg (ndW n a)) rfl (by kernel_rfl) (by kernel_rfl) (fun _ _ _ h => h) (yG_mid (by rfl) NdT (.tmp 18) rfl b (o + k * 10) rfl (ndLL n a) _ HL1.out Try.underlying38 rfl infoNd16) ?_
        (try simp only [Act.put, List.getElem_toArray, List.getElem_cons_succ, List.getElem_cons_zero, List.setIfInBounds_toArray, List.set_cons_zero, List.set_cons_succ])
        refine wpGrA_take (i := 4) (.slice (some ⟨b2, o2, none⟩) u.length c2) rfl (by kernel_rfl) (by kernel_rfl) (fun _ _ _ h => h) (yG_val _ (by rfl) (fun w' _ => by (go_simp; try rfl))) ?_
        (try simp only [Act.put, List.getElem_toArray, List.getElem_cons_succ, List.getElem_cons_zero, List.setIfInBounds_toArray, List.set_cons_zero, List.set_cons_succ])
        refine wpGrA_take (i := 5) (.int .i64 (k : Int)) rfl (by kernel_rfl) (by kernel_rfl) (fun _ _ _ h => h) (yG_val _ (by rfl) (fun w' _ => by (go_simp; try rfl))) ?_
        (try simp only [Act.put, List.getElem_toArray, List.getElem_cons_succ, List.getElem_cons_zero, List.setIfInBounds_toArray, List.set_cons_zero, List.set_cons_succ])
        refine wpGrA_take (i := 6) (.pointer (some ⟨b2, o2 + k * 10, none⟩)) rfl (by kernel_rfl) (by kernel_rfl) (fun _ _ _ h => h) (yG_val _ (by rfl) (fun w' _ => by (go_simp; try rfl))) ?_
        (try simp only [Act.put, List.getElem_toArray, List.getElem_cons_succ, List.getElem_cons_zero, List.setIfInBounds_toArray, List.set_cons_zero, List.set_cons_succ])
        refine wpGrA_take (i := 7) (.agg (ndW m d)) rfl (by kernel_rfl) (by kernel_rfl) (fun _ _ _ h => h) (yG_mid (by rfl) NdT (.tmp 22) rfl b2 (o2 + k * 10) rfl (ndLL m d) _ HL2.out Try.underlying38 rfl infoNd16) ?_
        (try simp only [Act.put, List.getElem_toArray, List.getElem_cons_succ, List.getElem_cons_zero, List.setIfInBounds_toArray, List.set_cons_zero, List.set_cons_succ])
        refine wpGrA_take (i := 8) (.bool s) rfl (by kernel_rfl) (by kernel_rfl) (fun _ _ _ h => h) (yG_call (by rfl) (fun w' => by go_simp) (fun w' hb => HS.out w' hb)) ?_
        (try simp only [Act.put, List.getElem_toArray, List.getElem_cons_succ, List.getElem_cons_zero, List.setIfInBounds_toArray, List.set_cons_zero, List.set_cons_succ])
        refine wpGrA_end (by kernel_rfl) ?_
        intro w5 hb5
        simp only [List.drop_succ_cons, List.drop_zero]
        have HB5 := hid (HB.out.trans (hb5.mono HB.out.size))
        clear hb5 HB HS HL1 HL2
        cases s with
        | false =>
          have HF : Hid (sameT t u = false) := hid (by
            rw [Bool.eq_false_iff]; intro h
            have h2 := ((sameT_iff t u).1 h).2 k n m HN.out HM'.out
            rw [← HSN.out] at h2; cases h2)
          go_wp2
          go_ret
          exact ⟨by rw [HF.out]; rfl, HB5.out⟩
        | true =>
          go_wp2
          have hk := HK.out; have hlt := HLT.out
          go_roundg (t.length - (k + 1))
          case measure => clear hw1; omega
          case rel => exact ⟨k + 1, by clear hw1; omega, by first | rfl | (rw [hw1]; rfl), fun j n2 m2 hj hn2 hm2 => by
            rcases Nat.lt_or_ge j k with h1 | h1
            · exact HNO.out j n2 m2 h1 hn2 hm2
            · obtain rfl : j = k := by clear hw1; omega
              rw [HN.out] at hn2
              rw [HM'.out] at hm2
              rw [← Option.some.inj hn2, ← Option.some.inj hm2]; exact HSN.out.symm, HB5.out⟩
      · have hge : ¬ (k : Int) < (t.length : Int) := by omega
        have HT : Hid (sameT t u = true) := hid ((sameT_iff t u).2 ⟨HL.out, fun j n m hn hm => HNO.out j n m (by have := HK.out; have := (List.getElem?_eq_some_iff.1 hn).1; omega) hn hm⟩)
        clear hlt
        go_wp2
        go_ret
        exact ⟨by rw [HT.out]; rfl, HB.out⟩
  · have HF : Hid (sameT t u = false) := hid (by rw [Bool.eq_false_iff]; intro h; exact hl ((sameT_iff t u).1 h).1)
    have hne : ((t.length : Int) != (u.length : Int)) = true := by rw [bne_iff_ne]; omega
    clear hA hA2 hm hm2 hl
    go_enter Try.func26, Try.ntmps26
    go_wp2
    go_ret
    exact ⟨by rw [HF.out]; rfl, Below.refl _ _⟩
end Go.Proofs.Ythooibljnfnnhaa
end
section
namespace Go.Proofs.Ythooibljnfnnhaa
open Go Go.RowKit
set_option linter.unusedVariables false
set_option linter.unusedSimpArgs false
theorem nd00_m : NdM nd00 := ⟨by unfold LfM; decide, by unfold PrM; decide, by decide, fun v h => by cases h⟩
theorem nAt_m {t : List Nd} (h : TrM t) (x : Nat) : NdM (nAt t x) := by
  rcases Nat.lt_or_ge x t.length with hx | hx
  · rw [nAt_get (List.getElem?_eq_getElem hx)]
    exact h.2 x _ (List.getElem?_eq_getElem hx)
  · rw [nAt_far hx]; exact nd00_m
theorem rt_m {u : List Nd} {K : Nat} (h : Rt u K) (hl : ∀ x, x < u.length → LfM (nAt u x).x) : TrM u := by
  refine ⟨by have := h.size.1; have := pow_le16 h.size.2; omega, fun x n hn => ?_⟩
  obtain ⟨hx, -⟩ := List.getElem?_eq_some_iff.1 hn
  have he := nAt_get hn
  have h1 := hl x hx
  have h2 := h.node x hx
  have h3 := late_len (x := x) h
  have h4 := h.late x hx
  rw [he] at h1 h2 h3 h4
  have hlt : Late64 n.u := fun v hv => by
    obtain ⟨i, rfl, hi, -⟩ := h4 v hv
    have := pow_le16 h.size.2
    omega
  unfold rightB at h2
  refine ⟨h1, ?_, ?_, hlt⟩
  · split at h2
    · rw [Bool.and_eq_true] at h2; rw [empty_pr h2.2]; unfold PrM; decide
    · split at h2
      · rw [Bool.and_eq_true] at h2; rw [empty_pr h2.2]; unfold PrM; decide
      · split at h2
        · rw [Bool.and_eq_true] at h2
          have h5 := h2.1
          unfold parB at h5
          simp only [Bool.and_eq_true, Bool.or_eq_true, decide_eq_true_eq] at h5
          unfold PrM
          omega
        · cases h2
  · split at h2
    · omega
    · split at h2
      · omega
      · split at h2
        · omega
        · cases h2
theorem addU_m {t : List Nd} {K : Nat} {l : Lf} (h : Rt t K) (hm : TrM t) (hl : leafB l = true) (h2 : Lf200 l) (hr : addI t K < 65536) : TrM (addU t K l) := by
  refine rt_m (addU_right h hl hr) fun x hx => ?_
  unfold addU at hx ⊢
  rw [addT_length] at hx
  rw [addT_at hx]
  unfold addN
  split
  · exact lf200_M h2
  · split
    · exact (nAt_m hm x).1
    · exact (nAt_m hm x).1
theorem remV_m {t : List Nd} {K i M : Nat} (h : Rt (remV t i M) K) (hm : TrM t) : TrM (remV t i M) := by
  refine rt_m h fun x hx => ?_
  have hx2 : x < t.length := by unfold remV at hx; rw [List.length_take, setT_length] at hx; omega
  have he : nAt (remV t i M) x = setN t i nd00 x := by
    have h1 : (remV t i M)[x]? = (setT t i nd00)[x]? := by
      unfold remV at hx ⊢
      rw [List.length_take] at hx
      rw [List.getElem?_take, if_pos (by omega)]
    rw [← setT_at hx2]
    unfold nAt
    rw [List.getD_eq_getElem?_getD, List.getD_eq_getElem?_getD, h1]
  rw [he]
  unfold setN
  split
  · exact nd00_m.1
  · split
    · exact nd00_m.1
    · exact (nAt_m hm x).1
/-- A leaf more. -/
theorem kp_add {t : List Nd} {l : Lf} {K : Nat} (h : Rt t K) (hm : TrM t) (hl : leafB l = true) (h2 : Lf200 l) (hr : addI t K < 65536) :
    addE t l = 0 ∧ addP t l = addI t K ∧ addR t l = addU t K l := by
  have h0 := rgt_yes h
  have hG : addG t l = true := by unfold addG; rw [h0, hl, kT_is h.size, decide_eq_true hr]; rfl
  refine ⟨?_, ?_, ?_⟩
  · unfold addE; rw [if_pos h0, if_pos hl, kT_is h.size, if_pos hr]
  · unfold addP; rw [if_pos hG, kT_is h.size]
  · unfold addR; rw [if_pos hG, kT_is h.size]
theorem sameN_refl (n : Nd) : sameN n n = true := by unfold sameN sameNd sameLf; simp
theorem sameT_refl (t : List Nd) : sameT t t = true := (sameT_iff t t).2 ⟨rfl, fun j n m h1 h2 => by rw [h1] at h2; cases h2; exact sameN_refl n⟩
end Go.Proofs.Ythooibljnfnnhaa
end
section
namespace Go.Proofs.Ythooibljnfnnhaa
open Go Go.RowKit
set_option linter.unusedVariables false
set_option linter.unusedSimpArgs false
theorem lfB_200 {x : Lf} (h : leafB x = true) : Lf200 x := by
  unfold leafB leafN at h
  simp only [Bool.and_eq_true, Bool.or_eq_true, decide_eq_true_eq] at h
  unfold Lf200
  omega
theorem one_pref : Pref [oneN] 1 0 := ⟨one_rt, fun i hi => by obtain rfl : i = 0 := by omega
                                                              exact ⟨fun _ => by omega, fun _ => rfl⟩, by decide, by decide, .inl rfl⟩
theorem ord_n {t : List Nd} {m K : Nat} (h : Pref t m K) : t.length = 2 * 2 ^ K - 1 ∧ m ≤ 2 ^ K ∧ 2 ^ K < 2 * m ∧ 2 ^ K ≤ 65536 ∧ 0 < 2 ^ K := by
  refine ⟨h.right.size.1, h.le, ?_, pow_le16 h.right.size.2, Nat.two_pow_pos K⟩
  rcases h.small with h0 | h0
  · subst h0
    have := h.pos
    rw [Nat.pow_zero]; omega
  · exact h0
theorem ord_add {t : List Nd} {m K : Nat} {l : Lf} (h : Pref t m K) (h0 : nAt t 0 = oneN) (hm : TrM t) (hl : leafB l = true) (hb : m < 65536) :
    addE t l = 0 ∧ addP t l = m ∧ (∃ K', Pref (addR t l) (m + 1) K') ∧ nAt (addR t l) 0 = oneN ∧ TrM (addR t l) := by
  have hI : addI t K = m := h.first
  have hK : addK t K = moreK m K := by unfold addK; rw [hI]
  obtain ⟨a1, a2, a3⟩ := kp_add h.right hm hl (lfB_200 hl) (by rw [hI]; exact hb)
  have hU : addU t K l = addT t l m (2 * 2 ^ moreK m K - 1) := by unfold addU; rw [hI, hK]
  rw [a3]
  refine ⟨a1, by rw [a2, hI], ⟨moreK m K, by rw [hU]; exact h.add hl hb⟩, ?_, addU_m h.right hm hl (lfB_200 hl) (by rw [hI]; exact hb)⟩
  have hp := h.pos
  rw [hU, addT_at (by have := Nat.two_pow_pos (moreK m K); omega)]
  unfold addN
  rw [if_neg (by omega), if_neg (fun hc => by have := abv_odd hc.2; omega), h0]
theorem ord_rem {t : List Nd} {m K : Nat} (h : Pref t (m + 1) K) (h0 : nAt t 0 = oneN) (hm : TrM t) (hp : 0 < m) :
    remE t (m : Int) = 0 ∧ (∃ K', Pref (remR t (m : Int)) m K') ∧ nAt (remR t (m : Int)) 0 = oneN ∧ TrM (remR t (m : Int)) := by
  have hle := h.le
  have hk : (nAt t (2 * m)).k = 1 := (h.mem m (by omega)).2 (by omega)
  have hmb := mbB_nat h.right.size (show m < 2 ^ K by omega) hk
  have hne : (memT t (2 ^ K)).length ≠ 1 := fun he => by
    have h1 : 0 ∈ memT t (2 ^ K) := mem_memT.2 ⟨by omega, (h.mem 0 (by omega)).2 (by omega)⟩
    have h2 : m ∈ memT t (2 ^ K) := mem_memT.2 ⟨by omega, hk⟩
    obtain ⟨a, ha⟩ := List.length_eq_one_iff.1 he
    rw [ha] at h1 h2
    have := List.mem_singleton.1 h1; have := List.mem_singleton.1 h2
    omega
  have hE : remE t (m : Int) = 0 := by unfold remE; rw [if_pos (rgt_yes h.right), if_pos hmb, kT_is h.right.size, if_neg hne]
  obtain ⟨r1, r2, r3⟩ := rem_last h.right (show m < 2 ^ K by omega) hk hne
  have hks : ∀ i, i < 2 ^ K → ((nAt (setT t m nd00) (2 * i)).k = 1 ↔ i < m) := fun i hi => by
    rw [setT_at (by rw [h.right.size.1]; omega)]
    by_cases he : i = m
    · subst he
      unfold setN
      rw [if_pos rfl]
      exact ⟨fun h => (by cases h), fun h => absurd h (Nat.lt_irrefl _)⟩
    · rw [setN_leaf he, h.mem i hi]; omega
  have hM : remM t m = m - 1 := by
    have h1 := (hks _ r1).1 r2
    rcases Nat.lt_or_ge (remM t m) (m - 1) with h2 | h2
    · exact absurd ((hks (m - 1) (by omega)).2 (by omega)) (r3 (m - 1) h2 (by omega))
    · omega
  have hR : remR t (m : Int) = remV t m (m - 1) := by unfold remR; rw [if_pos hE, Int.toNat_natCast, hM]
  have hD : Pref (remV t m (m - 1)) m (cutK (m - 1)) := h.drop hp
  rw [hR]
  refine ⟨hE, ⟨_, hD⟩, ?_, remV_m hD.right hm⟩
  unfold remV
  rw [take_at (by have := Nat.two_pow_pos (cutK (m - 1)); omega), setT_at (by rw [h.right.size.1]; omega)]
  unfold setN
  rw [if_neg (by omega), if_neg (fun hc => by have := abv_odd hc; omega), h0]
theorem ord_end {t : List Nd} {K : Nat} (h : Pref t 1 K) (h0 : nAt t 0 = oneN) : t = [oneN] := by
  obtain ⟨h1, h2, h3, h4, h5⟩ := ord_n h
  have hl : t.length = 1 := by omega
  obtain ⟨a, rfl⟩ := List.length_eq_one_iff.1 hl
  exact congrArg (fun x => [x]) h0
end Go.Proofs.Ythooibljnfnnhaa
end
