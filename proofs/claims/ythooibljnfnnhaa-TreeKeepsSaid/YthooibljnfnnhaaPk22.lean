/-
  Texts of this claim in one file: TcG, TcU, TcT.
-/
import Derived.Test.YthooibljnfnnhaaPk19
import Derived.Test.YthooibljnfnnhaaPk17
section
namespace Go.Proofs.Ythooibljnfnnhaa
open Go Go.RowKit
set_option linter.unusedVariables false
set_option linter.unusedSimpArgs false
/-- Two nodes, two trees are the same. -/
def sameN (n m : Nd) : Bool := sameNd n.k n.x n.u m.k m.x m.u
def sameT : List Nd → List Nd → Bool
  | [], [] => true
  | n :: t, m :: u => sameN n m && sameT t u
  | _, _ => false
theorem sameT_iff (t u : List Nd) : sameT t u = true ↔ t.length = u.length ∧ ∀ (j : Nat) (n m : Nd), t[j]? = some n → u[j]? = some m → sameN n m = true := by
  induction t generalizing u with
  | nil =>
    cases u with
    | nil => exact ⟨fun _ => ⟨rfl, fun j n m h => (by cases h)⟩, fun _ => rfl⟩
    | cons m u => exact ⟨fun h => (by cases h), fun h => (by cases h.1)⟩
  | cons n t ih =>
    cases u with
    | nil => exact ⟨fun h => (by cases h), fun h => (by cases h.1)⟩
    | cons m u =>
      rw [sameT, Bool.and_eq_true, ih]
      constructor
      · rintro ⟨h1, h2, h3⟩
        refine ⟨by rw [List.length_cons, List.length_cons, h2], fun j n' m' hn hm => ?_⟩
        cases j with
        | zero =>
          rw [List.getElem?_cons_zero] at hn hm
          rw [← Option.some.inj hn, ← Option.some.inj hm]; exact h1
        | succ j => exact h3 j n' m' (by rw [List.getElem?_cons_succ] at hn; exact hn) (by rw [List.getElem?_cons_succ] at hm; exact hm)
      · rintro ⟨h1, h2⟩
        exact ⟨h2 0 n m rfl rfl, by simpa using h1, fun j n' m' hn hm => h2 (j + 1) n' m' (by rw [List.getElem?_cons_succ]; exact hn) (by rw [List.getElem?_cons_succ]; exact hm)⟩
section
variable {P : Program} {ops : Array Oper}
theorem yG_mid {o : Oper} {a : Act} {w : World} (hw : Region.wanted o (yielded ops a.tmps) = true) (ty : TypeId) (x : Operand) (ho : o.op = .load ty x) (b off : Nat) (hx : a.eval x = .pointer (some ⟨b, off, none⟩)) (cs : List Value) (d : TypeDesc)
    (hc : ∀ w', Below w.heap.size w w' → w'.rangeAt b off cs) (hu : P.underlying ty = some d) (hd : d.isRow = true) (hi : (P.info? ty).map (·.size) = some cs.length) : YieldsG P ops o (.agg cs.toArray) a w :=
  yG_val _ hw fun w' hb => by
    unfold execOp
    simp only [ho, hx, Instr.loadAt, Instr.sureAddr, Sem.run_bind, Sem.run_pure, Result.andThen_ok, run_loadVar_mid w' b off ty cs d (hc w' hb) hu hd hi]
end
theorem lfM_le {x : Lf} (h : LfM x) : LfLe x := by unfold LfM at h; unfold LfLe; omega
theorem prM_le {u : Pnt} (h : PrM u) : PrLe u := by unfold PrM at h; unfold PrLe; omega
set_option maxRecDepth 100000 in
set_option maxHeartbeats 4000000 in
theorem tree_same (A : Option Addr) (t : List Nd) (ad : List NA) (c : Nat) (A2 : Option Addr) (u : List Nd) (ad2 : List NA) (c2 : Nat) (w : World) (hA : TrIn w w.heap.size A t ad) (hA2 : TrIn w w.heap.size A2 u ad2) (hm : TrM t) (hm2 : TrM u) :
    Calls Try.prog 26 #[.slice A t.length c, .slice A2 u.length c2] w (RetB w (sameT t u)) := by
  by_cases hl : t.length = u.length
  · have HA := hid hA; have HA2 := hid hA2; have HM := hid hm; have HM2 := hid hm2
    have hle := hm.1
    have hne : ((t.length : Int) != (u.length : Int)) = false := by rw [bne_eq_false_iff_eq]; omega
    have HL := hid hl
    clear hA hA2 hm hm2 hl
    go_enter Try.func26, Try.ntmps26
    go_wp2
    go_loopg [13] t.length (fun r i wr => ∃ k : Nat, k + r = t.length ∧ i = .int .i64 (k : Int) ∧ (∀ (j : Nat) (n m : Nd), j < k → t[j]? = some n → u[j]? = some m → sameN n m = true) ∧ Below w.heap.size w wr)
    case atStart => exact ⟨0, by omega, rfl, fun j n m hj => by omega, Below.refl _ _⟩
    case round =>
      obtain ⟨k, hk, rfl, hno, hb⟩ := hrel
      have HK := hid hk; have HNO := hid hno; have HB := hid hb
      have hw1 : wrap64 ((k : Int) + 1) = (k : Int) + 1 := wrap64_in (by omega) (by omega)
      clear hk hno hb hle hne
      by_cases hlt : k < t.length
      · have h1 := HA.out.up HB.out
        have h2 := HA2.out.up HB.out
        have hlt2 : k < u.length := by rw [← HL.out]; exact hlt
        obtain ⟨b, o, n, a, rfl, hbl, hn, -, hni, hr⟩ := h1.at_ hlt
        obtain ⟨b2, o2, m, d, rfl, hbl2, hm, -, hmi, hr2⟩ := h2.at_ hlt2
        have hx : (k : Int) < (t.length : Int) := by omega
        have hx2 : (k : Int) < (u.length : Int) := by omega
        have h0 : (0 : Int) ≤ (k : Int) := by omega
        have HL1 : Hid (∀ W, Below wr.heap.size wr W → W.rangeAt b (o + k * 10) (ndLL n a)) := hid fun W hb => (fun j v hv => (hb.cell (p := ⟨b, o + k * 10 + j, none⟩) hbl).trans (hr j v hv))
        have HL2 : Hid (∀ W, Below wr.heap.size wr W → W.rangeAt b2 (o2 + k * 10) (ndLL m d)) := hid fun W hb => (fun j v hv => (hb.cell (p := ⟨b2, o2 + k * 10 + j, none⟩) hbl2).trans (hr2 j v hv))
        have hnm := HM.out.2 k n hn
        have hmm := HM2.out.2 k m hm
        have HS : Hid (∀ W, Below wr.heap.size wr W → Calls Try.prog 55 #[.agg (ndW n a), .agg (ndW m d)] W (RetB W (sameN n m))) := hid fun W hb => node_same n.k n.x a.l n.u a.p m.k m.x d.l m.u d.p W (LfIn.on hni.1 hb) (PrIn.on hni.2 hb) (LfIn.on hmi.1 hb) (PrIn.on hmi.2 hb) (lfM_le hnm.1) (prM_le hnm.2.1) hnm.2.2.1 hmm.2.2.1 hmm.1.2.2.2.2.2
        have HN := hid hn; have HM' := hid hm; have HLT := hid hlt
        have HQ : Hid (sameN n m = sameN n m) := hid rfl
        obtain ⟨s, hs⟩ : ∃ s, s = sameN n m := ⟨_, rfl⟩
        have HSN := hid hs
        rw [← hs] at HS
        clear hn hm hr hr2 hlt hlt2 hni hmi hnm hmm h1 h2 hs hbl hbl2 HQ
        go_upto_region 6 with fail
        refine wp_region_grA 9 (by kernel_rfl) (by decide) ?_
        refine wpGrA_take (i := 0) (.slice (some ⟨b, o, none⟩) t.length c) rfl (by kernel_rfl) (by kernel_rfl) (fun _ _ _ h => h) (yG_val _ (by rfl) (fun w' _ => by (go_simp; try rfl))) ?_
        (try simp only [Act.put, List.getElem_toArray, List.getElem_cons_succ, List.getElem_cons_zero, List.setIfInBounds_toArray, List.set_cons_zero, List.set_cons_succ])
        refine wpGrA_take (i := 1) (.int .i64 (k : Int)) rfl (by kernel_rfl) (by kernel_rfl) (fun _ _ _ h => h) (yG_val _ (by rfl) (fun w' _ => by (go_simp; try rfl))) ?_
        (try simp only [Act.put, List.getElem_toArray, List.getElem_cons_succ, List.getElem_cons_zero, List.setIfInBounds_toArray, List.set_cons_zero, List.set_cons_succ])
        refine wpGrA_take (i := 2) (.pointer (some ⟨b, o + k * 10, none⟩)) rfl (by kernel_rfl) (by kernel_rfl) (fun _ _ _ h => h) (yG_val _ (by rfl) (fun w' _ => by (go_simp; try rfl))) ?_
        (try simp only [Act.put, List.getElem_toArray, List.getElem_cons_succ, List.getElem_cons_zero, List.setIfInBounds_toArray, List.set_cons_zero, List.set_cons_succ])
        refine wpGrA_take (i := 3) (.agg (ndW n a)) rfl (by kernel_rfl) (by kernel_rfl) (fun _ _ _ h => h) (yG_mid (by rfl) NdT (.tmp 18) rfl b (o + k * 10) rfl (ndLL n a) _ HL1.out Try.underlying38 rfl infoNd16) ?_
        (try simp only [Act.put, List.getElem_toArray, List.getElem_cons_succ, List.getElem_cons_zero, List.setIfInBounds_toArray, List.set_cons_zero, List.set_cons_succ])
        refine wpGrA_take (i := 4) (.slice (some ⟨b2, o2, none⟩) u.length c2) rfl (by kernel_rfl) (by kernel_rfl) (fun _ _ _ h => h) (yG_val _ (by rfl) (fun w' _ => by (go_simp; try rfl))) ?_
        (try simp only [Act.put, List.getElem_toArray, List.getElem_cons_succ, List.getElem_cons_zero, List.setIfInBounds_toArray, List.set_cons_zero, List.set_cons_succ])
        refine wpGrA_take (i := 5) (.int .i64 (k : Int)) rfl (by kernel_rfl) (by kernel_rfl) (fun _ _ _ h => h) (yG_val _ (by rfl) (fun w' _ => by (go_simp; try rfl))) ?_
        (try simp only [Act.put, List.getElem_toArray, List.getElem_cons_succ, List.getElem_cons_zero, List.setIfInBounds_toArray, List.set_cons_zero, List.set_cons_succ])
        refine wpGrA_take (i := 6) (.pointer (some ⟨b2, o2 + k * 10, none⟩)) rfl (by kernel_rfl) (by kernel_rfl) (fun _ _ _ h => h) (yG_val _ (by rfl) (fun w' _ => by (go_simp; try rfl))) ?_
        (try simp only [Act.put, List.getElem_toArray, List.getElem_cons_succ, List.getElem_cons_zero, List.setIfInBounds_toArray, List.set_cons_zero, List.set_cons_succ])
        refine wpGrA_take (i := 7) (.agg (ndW m d)) rfl (by kernel_rfl) (by kernel_rfl) (fun _ _ _ h => h) (yG_mid (by rfl) NdT (.tmp 22) rfl b2 (o2 + k * 10) rfl (ndLL m d) _ HL2.out Try.underlying38 rfl infoNd16) ?_
        (try simp only [Act.put, List.getElem_toArray, List.getElem_cons_succ, List.getElem_cons_zero, List.setIfInBounds_toArray, List.set_cons_zero, List.set_cons_succ])
        refine wpGrA_take (i := 8) (.bool s) rfl (by kernel_rfl) (by kernel_rfl) (fun _ _ _ h => h) (yG_call (by rfl) (fun w' => by go_simp) (fun w' hb => HS.out w' hb)) ?_
        (try simp only [Act.put, List.getElem_toArray, List.getElem_cons_succ, List.getElem_cons_zero, List.setIfInBounds_toArray, List.set_cons_zero, List.set_cons_succ])
        refine wpGrA_end (by kernel_rfl) ?_
        intro w5 hb5
        simp only [List.drop_succ_cons, List.drop_zero]
        have HB5 := hid (HB.out.trans (hb5.mono HB.out.size))
        clear hb5 HB HS HL1 HL2
        cases s with
        | false =>
          have HF : Hid (sameT t u = false) := hid (by
            rw [Bool.eq_false_iff]; intro h
            have h2 := ((sameT_iff t u).1 h).2 k n m HN.out HM'.out
            rw [← HSN.out] at h2; cases h2)
          go_wp2
          go_ret
          exact ⟨by rw [HF.out]; rfl, HB5.out⟩
        | true =>
          go_wp2
          have hk := HK.out; have hlt := HLT.out
          go_roundg (t.length - (k + 1))
          case measure => clear hw1; omega
          case rel => exact ⟨k + 1, by clear hw1; omega, by first | rfl | (rw [hw1]; rfl), fun j n2 m2 hj hn2 hm2 => by
            rcases Nat.lt_or_ge j k with h1 | h1
            · exact HNO.out j n2 m2 h1 hn2 hm2
            · obtain rfl : j = k := by clear hw1; omega
              rw [HN.out] at hn2
              rw [HM'.out] at hm2
              rw [← Option.some.inj hn2, ← Option.some.inj hm2]; exact HSN.out.symm, HB5.out⟩
      · have hge : ¬ (k : Int) < (t.length : Int) := by omega
        have HT : Hid (sameT t u = true) := hid ((sameT_iff t u).2 ⟨HL.out, fun j n m hn hm => HNO.out j n m (by have := HK.out; have := (List.getElem?_eq_some_iff.1 hn).1; omega) hn hm⟩)
        clear hlt
        go_wp2
        go_ret
        exact ⟨by rw [HT.out]; rfl, HB.out⟩
  · have HF : Hid (sameT t u = false) := hid (by rw [Bool.eq_false_iff]; intro h; exact hl ((sameT_iff t u).1 h).1)
    have hne : ((t.length : Int) != (u.length : Int)) = true := by rw [bne_iff_ne]; omega
    clear hA hA2 hm hm2 hl
    go_enter Try.func26, Try.ntmps26
    go_wp2
    go_ret
    exact ⟨by rw [HF.out]; rfl, Below.refl _ _⟩
end Go.Proofs.Ythooibljnfnnhaa
end
section
namespace Go.Proofs.Ythooibljnfnnhaa
open Go Go.RowKit
set_option linter.unusedVariables false
set_option linter.unusedSimpArgs false
theorem nd00_m : NdM nd00 := ⟨by unfold LfM; decide, by unfold PrM; decide, by decide, fun v h => by cases h⟩
theorem nAt_m {t : List Nd} (h : TrM t) (x : Nat) : NdM (nAt t x) := by
  rcases Nat.lt_or_ge x t.length with hx | hx
  · rw [nAt_get (List.getElem?_eq_getElem hx)]
    exact h.2 x _ (List.getElem?_eq_getElem hx)
  · rw [nAt_far hx]; exact nd00_m
theorem rt_m {u : List Nd} {K : Nat} (h : Rt u K) (hl : ∀ x, x < u.length → LfM (nAt u x).x) : TrM u := by
  refine ⟨by have := h.size.1; have := pow_le16 h.size.2; omega, fun x n hn => ?_⟩
  obtain ⟨hx, -⟩ := List.getElem?_eq_some_iff.1 hn
  have he := nAt_get hn
  have h1 := hl x hx
  have h2 := h.node x hx
  have h3 := late_len (x := x) h
  have h4 := h.late x hx
  rw [he] at h1 h2 h3 h4
  have hlt : Late64 n.u := fun v hv => by
    obtain ⟨i, rfl, hi, -⟩ := h4 v hv
    have := pow_le16 h.size.2
    omega
  unfold rightB at h2
  refine ⟨h1, ?_, ?_, hlt⟩
  · split at h2
    · rw [Bool.and_eq_true] at h2; rw [empty_pr h2.2]; unfold PrM; decide
    · split at h2
      · rw [Bool.and_eq_true] at h2; rw [empty_pr h2.2]; unfold PrM; decide
      · split at h2
        · rw [Bool.and_eq_true] at h2
          have h5 := h2.1
          unfold parB at h5
          simp only [Bool.and_eq_true, Bool.or_eq_true, decide_eq_true_eq] at h5
          unfold PrM
          omega
        · cases h2
  · split at h2
    · omega
    · split at h2
      · omega
      · split at h2
        · omega
        · cases h2
theorem memR_of {t : List Nd} {K : Nat} (h : Rt t K) : memR t = memT t (2 ^ K) := by unfold memR; rw [if_pos (rgt_yes h), rt_half h.size]
theorem isT_of {t : List Nd} {K : Nat} (h : Sz t K) (z : Int) : isT t z = true ↔ ∃ i : Nat, z = (i : Int) ∧ i ∈ memT t (2 ^ K) := by
  unfold isT
  rw [rt_half h, decide_eq_true_iff]
  unfold ints
  rw [List.mem_map]
  exact ⟨fun ⟨i, h1, h2⟩ => ⟨i, h2.symm, h1⟩, fun ⟨i, h1, h2⟩ => ⟨i, h2, h1.symm⟩⟩
theorem addU_m {t : List Nd} {K : Nat} {l : Lf} (h : Rt t K) (hm : TrM t) (hl : leafB l = true) (h2 : Lf200 l) (hr : addI t K < 65536) : TrM (addU t K l) := by
  refine rt_m (addU_right h hl hr) fun x hx => ?_
  unfold addU at hx ⊢
  rw [addT_length] at hx
  rw [addT_at hx]
  unfold addN
  split
  · exact lf200_M h2
  · split
    · exact (nAt_m hm x).1
    · exact (nAt_m hm x).1
theorem setT_m {t : List Nd} {K i : Nat} {y : Nd} (h : Rt (setT t i y) K) (hm : TrM t) (hy : LfM y.x) : TrM (setT t i y) := by
  refine rt_m h fun x hx => ?_
  rw [setT_length] at hx
  rw [setT_at hx]
  unfold setN
  split
  · exact hy
  · split
    · exact nd00_m.1
    · exact (nAt_m hm x).1
theorem remV_m {t : List Nd} {K i M : Nat} (h : Rt (remV t i M) K) (hm : TrM t) : TrM (remV t i M) := by
  refine rt_m h fun x hx => ?_
  have hx2 : x < t.length := by unfold remV at hx; rw [List.length_take, setT_length] at hx; omega
  have he : nAt (remV t i M) x = setN t i nd00 x := by
    have h1 : (remV t i M)[x]? = (setT t i nd00)[x]? := by
      unfold remV at hx ⊢
      rw [List.length_take] at hx
      rw [List.getElem?_take, if_pos (by omega)]
    rw [← setT_at hx2]
    unfold nAt
    rw [List.getD_eq_getElem?_getD, List.getD_eq_getElem?_getD, h1]
  rw [he]
  unfold setN
  split
  · exact nd00_m.1
  · split
    · exact nd00_m.1
    · exact (nAt_m hm x).1
/-- A leaf more. -/
theorem kp_add {t : List Nd} {l : Lf} {K : Nat} (h : Rt t K) (hm : TrM t) (hl : leafB l = true) (h2 : Lf200 l) (hr : addI t K < 65536) :
    addE t l = 0 ∧ addP t l = addI t K ∧ addR t l = addU t K l := by
  have h0 := rgt_yes h
  have hG : addG t l = true := by unfold addG; rw [h0, hl, kT_is h.size, decide_eq_true hr]; rfl
  refine ⟨?_, ?_, ?_⟩
  · unfold addE; rw [if_pos h0, if_pos hl, kT_is h.size, if_pos hr]
  · unfold addP; rw [if_pos hG, kT_is h.size]
  · unfold addR; rw [if_pos hG, kT_is h.size]
theorem kp_in {t : List Nd} {l : Lf} {K : Nat} (h : Rt t K) (hl : leafB l = true) (hr : addI t K < 65536) :
    memR (addU t K l) = memT (addU t K l) (2 ^ addK t K) ∧ (memR (addU t K l)).length = (memR t).length + 1 ∧ isT t (addI t K : Int) = false ∧ mbB (addU t K l) (addI t K : Int) = true ∧ (nAt (addU t K l) (2 * addI t K)).x = l := by
  have hu := addU_right h hl hr
  obtain ⟨m1, m2⟩ := addU_mem (l := l) h hr
  obtain ⟨l1, l2⟩ := addU_leaf (l := l) h hr
  obtain ⟨f1, f2, f3, f4⟩ := addK_facts h.size hr
  refine ⟨memR_of hu, by rw [memR_of hu, memR_of h, m1], ?_, mbB_nat hu.size f3 (by rw [l1]), by rw [l1]⟩
  rw [← Bool.not_eq_true, isT_of h.size]
  rintro ⟨i, hi, hm⟩
  exact m2 (by rw [show addI t K = i by omega]; exact hm)
theorem kp_rem {t : List Nd} {l : Lf} {K : Nat} (h : Rt t K) (hm : TrM t) (hl : leafB l = true) (h2 : Lf200 l) (hr : addI t K < 65536) :
    remE (addU t K l) (addI t K : Int) = 0 ∧ rgt (remR (addU t K l) (addI t K : Int)) = true ∧ TrM (remR (addU t K l) (addI t K : Int)) ∧ memR (remR (addU t K l) (addI t K : Int)) = memR t ∧ (remR (addU t K l) (addI t K : Int)).length ≤ (addU t K l).length := by
  have hu := addU_right h hl hr
  obtain ⟨m1, m2⟩ := addU_mem (l := l) h hr
  obtain ⟨-, -, -, hmb, -⟩ := kp_in h hl hr
  have hne : (memT (addU t K l) (2 ^ addK t K)).length ≠ 1 := by
    have := List.length_pos_iff.2 (some_mem h)
    omega
  have hE : remE (addU t K l) (addI t K : Int) = 0 := by unfold remE; rw [if_pos (rgt_yes hu), if_pos hmb, kT_is hu.size, if_neg hne]
  obtain ⟨M, e1, e2, e3, e4, e5⟩ := add_rem h hl hr
  have hM : remM (addU t K l) (addI t K) = M := by unfold remM; rw [kT_is hu.size, e1]; rfl
  have hR : remR (addU t K l) (addI t K : Int) = remV (addU t K l) (addI t K) M := by
    unfold remR
    rw [if_pos hE, show ((addI t K : Nat) : Int).toNat = addI t K from Int.toNat_natCast _, hM]
  rw [hR]
  exact ⟨hE, rgt_yes e3, remV_m e3 (addU_m h hm hl h2 hr), by rw [memR_of e3, memR_of h, e4], e5⟩
theorem kp_upd {t : List Nd} {l : Lf} {K : Nat} {z : Int} (h : Rt t K) (hm : TrM t) (hl : leafB l = true) (h2 : Lf200 l) (hz : isT t z = true) :
    updE t z l = 0 ∧ rgt (updR t z l) = true ∧ TrM (updR t z l) ∧ memR (updR t z l) = memR t ∧ (updR t z l).length = t.length := by
  obtain ⟨i, rfl, hi⟩ := (isT_of h.size z).1 hz
  obtain ⟨i1, i2⟩ := mem_memT.1 hi
  have hE : updE t (i : Int) l = 0 := by unfold updE; rw [if_pos (rgt_yes h), if_pos hl, if_pos (mbB_nat h.size i1 i2)]
  have hR : updR t (i : Int) l = setT t i ⟨1, l, pr0⟩ := by unfold updR; rw [if_pos hE, Int.toNat_natCast]
  have hu := upd_right h i1 i2 hl
  rw [hR]
  exact ⟨hE, rgt_yes hu, setT_m hu hm (lf200_M h2), by rw [memR_of hu, memR_of h, set_mem h.size i1 i2], setT_length _ _ _⟩
theorem sameN_refl (n : Nd) : sameN n n = true := by unfold sameN sameNd sameLf; simp
theorem sameT_refl (t : List Nd) : sameT t t = true := (sameT_iff t t).2 ⟨rfl, fun j n m h1 h2 => by rw [h1] at h2; cases h2; exact sameN_refl n⟩
theorem sameLf_refl (x : Lf) : sameLf x x = true := by unfold sameLf; simp
end Go.Proofs.Ythooibljnfnnhaa
end
section
namespace Go.Proofs.Ythooibljnfnnhaa
open Go Go.RowKit
set_option linter.unusedVariables false
set_option linter.unusedSimpArgs false
noncomputable def lfG (t : List Nd) (z : Int) : Lf := if rgt t = true then (if mbB t z = true then (nAt t (2 * z.toNat)).x else lf0) else lf0
theorem lfO_in {W w : World} {x : Lf} {a : LA} (h : LfOwn W w x a) : LfIn w x a := ⟨Lie.of_own h.1, Lie.of_own h.2.1, Lie.of_own h.2.2.1, Lie.of_own h.2.2.2.1, Lie.of_own h.2.2.2.2⟩
theorem build_lf17 (W : World) : (Instr.build LfT #[]).run Try.prog W = .ok (.agg (lfV lf0 la0)) W := run_build W LfT _ _ (by kernel_rfl)
theorem run_field17 (k : Nat) (x : Lf) (a : LA) (u : Pnt) (p : PA) (W : World) : (Instr.field NdT (.agg (ndV k x a u p)) 1).run Try.prog W = .ok (.agg (lfV x a)) W := by
  first | kernel_rfl | rfl | (simp [Instr.run, Try.underlying38]; rfl)
set_option maxRecDepth 100000 in
set_option maxHeartbeats 8000000 in
theorem tree_leaf (A : Option Addr) (t : List Nd) (ad : List NA) (c : Nat) (z : Int) (w : World) (hA : TrQ w w.heap.size A c t ad) (hm : TrM t) :
    Calls Try.prog 11 #[.slice A t.length c, .int .i64 z] w fun e w' => ∃ la, e = .returned (.tuple #[.agg (lfV (lfG t z) la), .bool (rgt t && mbB t z)]) ∧ LfIn w' (lfG t z) la ∧ Below w.heap.size w w' := by
  have HB0 : Hid (Below w.heap.size w (w.alloc (.cells lfZ LfT))) := hid ((Below.refl _ _).alloc (Nat.le_refl _) _)
  have K0 : Hid ((w.alloc (.cells lfZ LfT)).heap[w.heap.size]? = some (.cells lfZ LfT (0, 0))) := hid (heap_alloc_new w _)
  have HS0 : Hid ((w.alloc (.cells lfZ LfT)).heap.size = w.heap.size + 1) := hid (by simp)
  obtain ⟨W0, hW0⟩ : ∃ W, W = w.alloc (.cells lfZ LfT) := ⟨_, rfl⟩
  have HE : Hid (w.alloc (.cells #[.slice none 0 0, .slice none 0 0, .slice none 0 0, .int .u8 0, .slice none 0 0, .slice none 0 0] LfT) = W0) := hid hW0.symm
  rw [← hW0] at HB0 K0 HS0
  have HKW : Hid (∀ W, Below W0.heap.size W0 W → W.heap[w.heap.size]? = some (.cells lfZ LfT (0, 0))) := hid fun W hb => (hb.block _ (by rw [HS0.out]; omega)).trans K0.out
  have HA := hid (hA.up HB0.out)
  have HRt := hid (tree_right A t ad c W0 HA.out hm)
  have HIM : Hid (∀ W, Below W0.heap.size W0 W → Calls Try.prog 36 #[.slice A t.length c, .int .i64 z] W fun e w' => e = .returned (.bool (mbB t z)) ∧ w' = W) := hid fun W hb => isMember_e A t ad c z W (HA.out.tr.up hb) (by have := hm.1; omega)
  have hbuild := build_lf17
  by_cases hr : rgt t = true
  · rw [hr] at HRt
    by_cases hb1 : mbB t z = true
    · have HG : Hid (lfG t z = (nAt t (2 * z.toNat)).x) := hid (by unfold lfG; rw [if_pos hr, if_pos hb1])
      obtain ⟨K, hK⟩ := rgt_rt hr
      obtain ⟨i, rfl, hi, hk⟩ := mbB_of hK.size hb1
      rw [hb1] at HIM
      rw [Int.toNat_natCast] at HG
      have hl := hm.1
      have hit : 2 * i < t.length := by rw [hK.size.1]; omega
      have HM := hid hm
      have HIT := hid hit
      rw [HG.out, hr, hb1]
      have hw2 : wrap64 (2 * (i : Int)) = ((2 * i : Nat) : Int) := (wrap64_in (by omega) (by omega)).trans (by omega)
      obtain ⟨x, hx⟩ : ∃ x, x = 2 * i := ⟨_, rfl⟩
      rw [← hx] at hw2 HIT hit ⊢
      have hxi : (x : Int) < (t.length : Int) := by omega
      have hx0 : (0 : Int) ≤ (x : Int) := by omega
      clear hA hm hr hb1 hK hi hk HG hx hit hl hW0
      obtain ⟨X, hX⟩ : ∃ X, X = nAt t x := ⟨_, rfl⟩
      rw [← hX]
      have HX := hid hX
      clear hX
      go_enter Try.func11, Try.ntmps11
      go_upto_region 1 with fail
      rw [HE.out]
      go_wp2_with fail
      refine HRt.out.mono ?_
      rintro e w1 ⟨rfl, hb⟩
      have HB1 := hid hb
      clear hb HRt
      go_wp2_with fail
      refine (HIM.out _ HB1.out).mono ?_
      rintro e w2 ⟨rfl, rfl⟩
      have hA2 := HA.out.up HB1.out
      obtain ⟨b, o, n, a, rfl, hbl, hn, hne, hni, hrg⟩ := hA2.tr.at_ HIT.out
      have HR := hid (rng_ll hrg)
      have HC := hid (node_copy n.k n.x a.l n.u a.p w2 ⟨hni.1, hni.2, HM.out.2 _ n hn⟩)
      have hnx : n = X := hne.trans HX.out.symm
      subst hnx
      clear hrg hni hA2 hn HIM HA hne
      go_wp2_with (with_reducible refine wpList_load_mid rfl NdT (.tmp 19) rfl b (o + x * 10) rfl (ndLL n a) _ HR.out Try.underlying38 rfl infoNd16 ?_)
      refine HC.out.mono ?_
      rintro e w3 ⟨lb, q, rfl, ho, -, -, -, hb⟩
      have HO := hid ho
      have hfld := run_field17 n.k n.x lb n.u q
      have HB3 := hid (HB1.out.trans (hb.mono HB1.out.size))
      have HSZ : Hid (w.heap.size < w2.heap.size) := hid (by have := HB1.out.size; have := HS0.out; omega)
      have KZ0 := HKW.out w3 HB3.out
      clear ho hb HC HR
      go_wp2_with (with_reducible refine wpList_store_row rfl LfT (.tmp 4) _ rfl w.heap.size (lfV n.x lb) rfl rfl LfT lfZ KZ0 infoLf lfZ_size lfV_one ?_)
      have KZ := setRow_heap _ w.heap.size lfZ (lfV n.x lb) LfT (0, 0) KZ0
      exact bodyPost_ret (v := .tuple #[.agg (lfV n.x lb), .bool true]) (results_cs rfl _ _ w.heap.size LfT (lfV n.x lb) (0, 0) _ rfl KZ Try.underlying27 rfl infoLf _ rfl) rfl ⟨lb, rfl, lfO_in (lfOwn_put HO.out HSZ.out), (HB0.out.trans (HB3.out.mono HB0.out.size)).trans (below_put _ _ _ (Nat.le_refl _))⟩
    · have HG : Hid (lfG t z = lf0) := hid (by unfold lfG; rw [if_pos hr, if_neg hb1])
      have hb1' : mbB t z = false := by simpa using hb1
      rw [hb1'] at HIM
      rw [HG.out, hr, hb1']
      clear hA hm hr hb1 hb1' HG hW0 HA
      go_enter Try.func11, Try.ntmps11
      go_upto_region 1 with fail
      rw [HE.out]
      go_wp2_with fail
      refine HRt.out.mono ?_
      rintro e w1 ⟨rfl, hb⟩
      have HB1 := hid hb
      clear hb HRt
      go_wp2_with fail
      refine (HIM.out _ HB1.out).mono ?_
      rintro e w2 ⟨rfl, rfl⟩
      have KZ0 := HKW.out w2 HB1.out
      clear HIM
      go_wp2_with (with_reducible refine wpList_store_row rfl LfT (.tmp 4) _ rfl w.heap.size (lfV lf0 la0) rfl rfl LfT lfZ KZ0 infoLf lfZ_size lfV_one ?_)
      have KZ := setRow_heap _ w.heap.size lfZ (lfV lf0 la0) LfT (0, 0) KZ0
      exact bodyPost_ret (v := .tuple #[.agg (lfV lf0 la0), .bool false]) (results_cs rfl _ _ w.heap.size LfT (lfV lf0 la0) (0, 0) _ rfl KZ Try.underlying27 rfl infoLf _ rfl) rfl ⟨la0, rfl, lf0_in _, (HB0.out.trans (HB1.out.mono HB0.out.size)).trans (below_put _ _ _ (Nat.le_refl _))⟩
  · have HG : Hid (lfG t z = lf0) := hid (by unfold lfG; rw [if_neg hr])
    have hr' : rgt t = false := by simpa using hr
    rw [hr'] at HRt
    rw [HG.out, hr']
    clear hA hm hr hr' HG hW0 HA HIM
    go_enter Try.func11, Try.ntmps11
    go_upto_region 1 with fail
    rw [HE.out]
    go_wp2_with fail
    refine HRt.out.mono ?_
    rintro e w1 ⟨rfl, hb⟩
    have HB1 := hid hb
    have KZ0 := HKW.out w1 HB1.out
    clear hb HRt
    go_wp2_with (with_reducible refine wpList_store_row rfl LfT (.tmp 4) _ rfl w.heap.size (lfV lf0 la0) rfl rfl LfT lfZ KZ0 infoLf lfZ_size lfV_one ?_)
    have KZ := setRow_heap _ w.heap.size lfZ (lfV lf0 la0) LfT (0, 0) KZ0
    exact bodyPost_ret (v := .tuple #[.agg (lfV lf0 la0), .bool false]) (results_cs rfl _ _ w.heap.size LfT (lfV lf0 la0) (0, 0) _ rfl KZ Try.underlying27 rfl infoLf _ rfl) rfl ⟨la0, rfl, lf0_in _, (HB0.out.trans (HB1.out.mono HB0.out.size)).trans (below_put _ _ _ (Nat.le_refl _))⟩
end Go.Proofs.Ythooibljnfnnhaa
end
