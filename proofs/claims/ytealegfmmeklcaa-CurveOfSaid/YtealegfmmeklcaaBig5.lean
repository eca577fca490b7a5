/-
  The document's own numbers: division, digit by digit.
-/
import Derived.Test.YtealegfmmeklcaaBig4
namespace Go.Proofs.Ytealegfmmeklcaa
open Go.RowKit
set_option linter.unusedVariables false
set_option linter.unusedSimpArgs false

theorem val_digits (N : Nat) (L : List Nat) (h : ∀ j, j < L.length → L.getD j 0 = N / 32768 ^ j % 32768) (k : Nat) (hk : k ≤ L.length) : val (L.take k) = N % 32768 ^ k := by
  induction k with
  | zero => simp [val, Nat.mod_one]
  | succ k ih =>
    have hlt : k < L.length := by omega
    have hg : L[k] = N / 32768 ^ k % 32768 := by
      have := h k hlt
      rw [List.getD_eq_getElem?_getD, List.getElem?_eq_getElem hlt] at this; exact this
    rw [List.take_succ_eq_append_getElem hlt, val_snoc, ih (by omega), hg, List.length_take, Nat.min_eq_left (by omega), ← mod_next]
theorem dgs_cons {x : Nat} {l : List Nat} (hx : x < 32768) (h : Dgs l) : Dgs (x :: l) := fun y hy => by
  rcases List.mem_cons.1 hy with rfl | hy
  · exact hx
  · exact h y hy
/-- One step of a division: the digit and what is left. -/
theorem div_step (a b i : Nat) (hb : 0 < b) : let R := a / 32768 ^ i % 32768 + 32768 * ((a / 32768 ^ (i + 1)) % b)
    R / b = a / b / 32768 ^ i % 32768 ∧ R % b = (a / 32768 ^ i) % b ∧ R / b < 32768 := by
  intro R
  obtain ⟨T, hT⟩ : ∃ T, T = a / 32768 ^ (i + 1) := ⟨_, rfl⟩
  have hd := div_next a i
  have hx : a / 32768 ^ i % 32768 < 32768 := Nat.mod_lt _ (by omega)
  rw [← hT] at hd
  have hR : R = a / 32768 ^ i % 32768 + 32768 * (T % b) := by rw [hT]
  generalize a / 32768 ^ i % 32768 = x at hd hx hR
  have e : a / 32768 ^ i = R + b * (32768 * (T / b)) := by
    have hq := Nat.div_add_mod T b
    have h1 : b * (32768 * (T / b)) = 32768 * (b * (T / b)) := Nat.mul_left_comm _ _ _
    omega
  have hlt : R / b < 32768 := by
    rw [Nat.div_lt_iff_lt_mul hb]
    have := Nat.mod_lt T hb
    have h2 : 32768 * (T % b) + 32768 ≤ 32768 * b := by omega
    omega
  refine ⟨?_, ?_, hlt⟩
  · rw [Nat.div_div_eq_div_mul, Nat.mul_comm b, ← Nat.div_div_eq_div_mul, e, Nat.add_mul_div_left _ _ hb, Nat.add_mul_mod_self_left, Nat.mod_eq_of_lt hlt]
  · rw [e, Nat.add_mul_mod_self_left]

set_option maxRecDepth 100000 in
set_option maxHeartbeats 1600000 in
theorem halves_loop {Q : Exit → Act → World → Prop} (R b : Nat) (A' : Option Addr) (c' : Nat) (A7 : Option Addr) (c7 : Nat) (w0 : World) (t0 t2 t3 t4 t5 t6 t8 t11 t12 t13 t14 t15 t16 t17 t18 t19 t20 t21 t22 t23 t24 t25 t26 t27 t28 t29 t30 t31 t32 t33 t34 t35 t36 t37 t38 t39 t40 t41 t42 t43 t44 t45 t46 t47 t48 t49 t50 t51 t52 t53 t54 t55 t56 t57 t58 t59 t60 t61 : Value)
    (hS' : Sq w0 w0.heap.size A' c' (ivs (dg b))) (hS7 : Sq w0 w0.heap.size A7 c7 (ivs (dg R))) (hl' : (dg b).length ≤ 1048576) (hl7 : (dg R).length ≤ 1099511627776) (hb0 : 0 < b) (hR : R / b < 32768)
    (hexit : ∀ (w' : World) (u10 u11 u30 u31 u32 u33 u34 u35 u36 u37 u38 u39 u40 u41 u42 u43 u44 u45 u46 u47 : Value), Below w0.heap.size w0 w' → Q (.exit 2) ⟨(t0 :: (.slice A' (dg b).length c') :: t2 :: t3 :: t4 :: t5 :: t6 :: (.slice A7 (dg R).length c7) :: t8 :: (.int .i64 ((R / b : Nat) : Int)) :: u10 :: u11 :: t12 :: t13 :: t14 :: t15 :: t16 :: t17 :: t18 :: t19 :: t20 :: t21 :: t22 :: t23 :: t24 :: t25 :: t26 :: t27 :: t28 :: t29 :: u30 :: u31 :: u32 :: u33 :: u34 :: u35 :: u36 :: u37 :: u38 :: u39 :: u40 :: u41 :: u42 :: u43 :: u44 :: u45 :: u46 :: u47 :: t48 :: t49 :: t50 :: t51 :: t52 :: t53 :: t54 :: t55 :: t56 :: t57 :: t58 :: t59 :: t60 :: t61 :: []).toArray, []⟩ w') :
    Code.wp Try.prog (Code.loop (loopN Try.f14 1)) Q ⟨(t0 :: (.slice A' (dg b).length c') :: t2 :: t3 :: t4 :: t5 :: t6 :: (.slice A7 (dg R).length c7) :: t8 :: (.int .i64 0) :: (.int .i64 32767) :: t11 :: t12 :: t13 :: t14 :: t15 :: t16 :: t17 :: t18 :: t19 :: t20 :: t21 :: t22 :: t23 :: t24 :: t25 :: t26 :: t27 :: t28 :: t29 :: t30 :: t31 :: t32 :: t33 :: t34 :: t35 :: t36 :: t37 :: t38 :: t39 :: t40 :: t41 :: t42 :: t43 :: t44 :: t45 :: t46 :: t47 :: t48 :: t49 :: t50 :: t51 :: t52 :: t53 :: t54 :: t55 :: t56 :: t57 :: t58 :: t59 :: t60 :: t61 :: []).toArray, []⟩ w0 := by
  conv => arg 2; arg 1; whnf
  have HS' := hid hS'; have HS7 := hid hS7
  have hR2 : R < 32768 * b := (Nat.div_lt_iff_lt_mul hb0).1 hR
  have HR2 := hid hR2; have HB0 := hid hb0
  clear hS' hS7 hR hR2
  go_loopg [9, 10] 32767 (fun g u v wr => ∃ lo hi : Nat, g = hi - lo ∧ u = .int .i64 (lo : Int) ∧ v = .int .i64 (hi : Int) ∧ lo * b ≤ R ∧ R < (hi + 1) * b ∧ lo ≤ hi ∧ hi ≤ 32767 ∧ Below w0.heap.size w0 wr)
  case atStart => exact ⟨0, 32767, rfl, rfl, rfl, by omega, by have := HR2.out; omega, by omega, by omega, Below.refl _ _⟩
  case round =>
    obtain ⟨lo, hi, hg, rfl, rfl, hlo, hhi, hle, hmx, hb⟩ := hrel
    obtain ⟨wq, rfl⟩ : ∃ wq : World, wq = wr := ⟨_, rfl⟩
    have HG := hid hg; have HLO := hid hlo; have HHI := hid hhi; have HB := hid hb
    have hsz : w0.heap.size ≤ wq.heap.size := hb.size
    clear hg hlo hhi hb
    by_cases hlt : lo < hi
    · have hli : (lo : Int) < (hi : Int) := by omega
      clear hexit
      obtain ⟨mid, hmid⟩ : ∃ m, m = (lo + hi + 1) / 2 := ⟨_, rfl⟩
      have hm1 : lo < mid := by omega
      have hm2 : mid ≤ hi := by omega
      have f1 : IntKind.i64.wrap ((lo : Int) + (hi : Int)) = (lo : Int) + (hi : Int) := IntWalk.i64_in _ (by omega)
      have f2 : IntKind.i64.wrap ((lo : Int) + (hi : Int) + 1) = (lo : Int) + (hi : Int) + 1 := IntWalk.i64_in _ (by omega)
      have f3 : ((lo : Int) + (hi : Int) + 1) / 2 = (mid : Int) := by omega
      have f4 : IntKind.u64.wrap (mid : Int) = (mid : Int) := by rw [IntKind.wrap_u64]; omega
      have HNUM := hid (Num_any mid wq (by omega))
      clear hmid
      go_wp2_with fail
      refine HNUM.out.mono ?_
      rintro e w2 ⟨A8, c8, rfl, hS8, hb2⟩
      have hdl : (dg mid).length ≤ 1073741824 := by
        have := (dg_length_le mid 2).2 (by omega); omega
      have hB2 : Below w0.heap.size w0 w2 := HB.out.trans (hb2.mono hsz)
      have HMUL := hid (Mul_any b mid A' A8 c' c8 w2 ((HS'.out.below hB2).more hB2.size) hS8 (by omega) hdl)
      have HB2 := hid hB2
      clear hS8 hb2 hB2 HNUM
      go_wp2_with fail
      refine HMUL.out.mono ?_
      rintro e w3 ⟨A9, c9, rfl, hS9, hb3⟩
      have hB3 : Below w0.heap.size w0 w3 := HB2.out.trans (hb3.mono HB2.out.size)
      have HLESS := hid (Less_any R (b * mid) A7 A9 c7 c9 w0.heap.size w3.heap.size w3 (HS7.out.below hB3) hS9 hl7)
      have HB3 := hid hB3
      clear hS9 hb3 hB3 HMUL
      go_wp2_with fail
      refine HLESS.out.mono ?_
      rintro e w4 ⟨rfl, n4, rfl⟩
      have HB4 := hid (belowB_drewN HB3.out n4)
      clear HLESS
      by_cases hc : R < b * mid
      · have hd : decide (R < b * mid) = true := decide_eq_true hc
        have HC : Hid (R < (mid - 1 + 1) * b) := hid (by rw [show mid - 1 + 1 = mid by omega, Nat.mul_comm]; exact hc)
        have f5 : (mid : Int) - 1 = ((mid - 1 : Nat) : Int) := by omega
        clear hc f1 f2 f3 f4
        rw [hd]
        clear hd
        go_wp2
        have hg := HG.out
        go_roundg (mid - 1 - lo)
        case measure => omega
        case rel => exact ⟨lo, mid - 1, rfl, rfl, by first | rfl | rw [f5] | (rw [← f5]), HLO.out, HC.out, by omega, by omega, HB4.out⟩
      · have hd : decide (R < b * mid) = false := decide_eq_false hc
        have HC : Hid (mid * b ≤ R) := hid (by rw [Nat.mul_comm]; omega)
        clear hc f1 f2 f3 f4
        rw [hd]
        clear hd
        go_wp2
        have hg := HG.out
        go_roundg (hi - mid)
        case measure => omega
        case rel => exact ⟨mid, hi, rfl, rfl, rfl, HC.out, HHI.out, by omega, by omega, HB4.out⟩
    · obtain rfl : lo = hi := by omega
      have hli : ¬ (lo : Int) < (lo : Int) := by omega
      have hq : lo = R / b := by
        have h1 := (Nat.le_div_iff_mul_le HB0.out).2 HLO.out
        have h2 := (Nat.div_lt_iff_lt_mul HB0.out).2 HHI.out
        omega
      subst hq
      clear HLO HHI HG
      go_wp2
      exact HB.out

set_option maxRecDepth 100000 in
set_option maxHeartbeats 3200000 in
theorem Div_at (a b : Nat) (A A' : Option Addr) (c c' : Nat) (w : World) (hS : Sq w w.heap.size A c (ivs (dg a))) (hS' : Sq w w.heap.size A' c' (ivs (dg b))) (hl : (dg a).length ≤ 1048576) (hl' : (dg b).length ≤ 1048576) (hb0 : 0 < b) :
    Calls Try.prog 14 #[.slice A (dg a).length c, .slice A' (dg b).length c'] w fun e w' => ∃ c1 A2 c2, e = .returned (.tuple #[.slice (some ⟨w.heap.size, 0, none⟩) (dg (a / b)).length c1, .slice A2 (dg (a % b)).length c2]) ∧ Sq w' w'.heap.size (some ⟨w.heap.size, 0, none⟩) c1 (ivs (dg (a / b))) ∧ Sq w' w'.heap.size A2 c2 (ivs (dg (a % b))) ∧ Below w.heap.size w w' := by
  obtain ⟨i0, hi, hz0, hz1, hz2⟩ := info_parts infoI64
  obtain ⟨la, hla⟩ : ∃ l, l = (dg a).length := ⟨_, rfl⟩
  have HS := hid hS; have HS' := hid hS'; have HI := hid hi; have HZ0 := hid hz0; have HZ1 := hid hz1; have HZ2 := hid hz2; have HLA := hid hla
  rw [← hla]
  have hla2 : la ≤ 1048576 := by omega
  have hlai : (0 : Int) ≤ (la : Int) := by omega
  clear hS hS' hi hz0 hz1 hz2 hla hl
  go_enter Try.func14, Try.ntmps14
  go_wp2_with (first | fail | (with_reducible refine wpList_make_full _ rfl (.tmp 13) (.tmp 13) 34 rfl w.heap.size 3 i0 (.int .i64 0) 1 Try.underlying34 HI.out HZ0.out HZ1.out .i64 .i64 _ _ la rfl rfl rfl rfl ?m1 ?m2 (Nat.le_refl _) ?_))
  case m1 => rw [HZ2.out]; omega
  case m2 => unfold maxLen; omega
  intro w1 hown1 hg1
  obtain ⟨hrow, _⟩ := own_row (by simpa using hown1)
  have hcs : (madeCells #[Value.int .i64 0] la).toList = ivs (List.replicate la 0) := by rw [ivs_zeros]; exact toList_madeCells_one _ _
  rw [hcs] at hrow
  have hb1 : Below w.heap.size w w1 := below_of_grown hg1 (Nat.le_refl _) (fun _ h => by cases h)
  have HROW := hid hrow; have HB1 := hid hb1
  have hala : a < 32768 ^ la := by rw [HLA.out]; exact dg_lt a
  have HALA := hid hala
  have h0 : dg (a / 32768 ^ la % b) = [] := by rw [Nat.div_eq_of_lt hala, Nat.zero_mod]; exact dg_zero
  have H0 := hid h0
  have hlw : IntKind.i64.wrap ((la : Int) - 1) = (la : Int) - 1 := IntWalk.i64_in _ (by omega)
  clear hown1 hg1 hrow hcs hb1 hala h0 HI HZ0 HZ1 HZ2
  go_wp2
  go_loopg [7, 8] la (fun g v i wr => ∃ (k : Nat) (A7 : Option Addr) (c7 : Nat) (L : List Nat), g = k ∧ i = .int .i64 ((k : Int) - 1) ∧ v = .slice A7 (dg (a / 32768 ^ k % b)).length c7 ∧ Sq wr wr.heap.size A7 c7 (ivs (dg (a / 32768 ^ k % b))) ∧ wr.heap[w.heap.size]? = some (.cells (ivs L).toArray 3 (0, 0)) ∧ L.length = la ∧ (∀ j, k ≤ j → j < la → L.getD j 0 = a / b / 32768 ^ j % 32768) ∧ Dgs L ∧ Below w.heap.size w wr ∧ k ≤ la)
  case atStart => exact ⟨la, none, 0, List.replicate la 0, rfl, rfl, by rw [H0.out]; rfl, by rw [H0.out]; exact Sq.nil, HROW.out, by simp, fun j h1 h2 => by omega, (fun x hx => by rw [List.mem_replicate] at hx; omega), HB1.out, Nat.le_refl _⟩
  case round =>
    clear HROW HB1 H0 hlw
    obtain ⟨k, A7, c7, L, hgk, rfl, rfl, hS7, hrow, hLl, hLd, hD, hb, hk⟩ := hrel
    obtain ⟨wq, rfl⟩ : ∃ wq : World, wq = wr := ⟨_, rfl⟩
    have HGK := hid hgk; have HS7 := hid hS7; have HROW := hid hrow; have HLL := hid hLl; have HLD := hid hLd; have HD := hid hD; have HB := hid hb
    have hsz : w.heap.size < wq.heap.size := block_lt hrow
    clear hgk hS7 hrow hLl hLd hD hb
    rcases k with _ | i
    · have h0 : ¬ (0 : Int) ≤ ((0 : Nat) : Int) - 1 := by omega
      have hv : val L = a / b := by
        have h := val_digits (a / b) L (fun j hj => HLD.out j (by omega) (by rw [← HLL.out]; exact hj)) L.length (Nat.le_refl _)
        rw [List.take_length, HLL.out] at h
        rw [h, Nat.mod_eq_of_lt (Nat.lt_of_le_of_lt (Nat.div_le_self _ _) HALA.out)]
      have HT := trim_any (some ⟨w.heap.size, 0, none⟩) L la wq.heap.size wq (ivs_sq HROW.out (by rw [HLL.out]; exact Nat.le_refl _) (by omega)) HD.out (by rw [HLL.out]; omega)
      rw [hv, HLL.out] at HT
      have HT := hid HT
      have hrest : a / 32768 ^ 0 % b = a % b := by simp
      have hS7 := HS7.out
      rw [hrest] at hS7
      rw [hrest]
      have HS7' := hid hS7
      clear hS7 HS7 HROW HLD HLL HGK hv hrest
      go_wp2_with fail
      refine HT.out.mono ?_
      rintro e w' ⟨rfl, hST, rfl⟩
      have HST := hid hST
      clear hST HT
      go_wp2
      exact bodyPost_ret (v := .tuple #[.slice (some ⟨w.heap.size, 0, none⟩) (dg (a / b)).length la, .slice A7 (dg (a % b)).length c7]) (by simp [results, Try.results14]) rfl ⟨_, _, _, rfl, HST.out, HS7'.out, HB.out⟩
    · have e1 : ((i + 1 : Nat) : Int) - 1 = (i : Int) := by omega
      rw [e1]
      have h0 : (0 : Int) ≤ (i : Int) := by omega
      have hil : (i : Int) < (la : Int) := by omega
      have hia : i < (dg a).length := by have := HLA.out; omega
      obtain ⟨R0, hR0⟩ : ∃ R, R = a / 32768 ^ (i + 1) % b := ⟨_, rfl⟩
      obtain ⟨x, hx⟩ : ∃ x, x = a / 32768 ^ i % 32768 := ⟨_, rfl⟩
      have hx1 : x < 32768 := by rw [hx]; exact Nat.mod_lt _ (by omega)
      obtain ⟨R, hR⟩ : ∃ R, R = x + 32768 * R0 := ⟨_, rfl⟩
      have hst := div_step a b i hb0
      simp only [← hx, ← hR0, ← hR] at hst
      obtain ⟨hq, hrm, hq2⟩ := hst
      have hS7 := HS7.out
      rw [← hR0] at hS7
      rw [← hR0]
      have hR0b : R0 < b := by rw [hR0]; exact Nat.mod_lt _ hb0
      have hR0l : (dg R0).length ≤ 1048576 := Nat.le_trans (dg_mono _ _ (Nat.le_of_lt hR0b)) hl'
      have hRv : val (x :: dg R0) = R := by rw [val, val_dg, hR]
      obtain ⟨bA, oA, rfl, hbA, hcx⟩ := (HS.out.below HB.out).dig hia
      rw [dg_getD, ← hx] at hcx
      have hL7 : Lie (wq.alloc (.cells #[.int .i64 (x : Int)] 3)) wq.heap.size A7 (ivs (dg R0)) := hS7.lie.alloc (Nat.le_refl _) _
      have HL7 := hid hL7; have HRV := hid hRv; have HQ := hid hq; have HRM := hid hrm
      clear hR0 hx hS7 hL7 hRv hq hrm HS7 e1 hR
      have hown0 : (wq.alloc (.cells #[.int .i64 (x : Int)] 3)).ownsRow wq.heap.size 3 1 (.slice (some ⟨wq.heap.size, 0, none⟩) 1 1) 1 [.int .i64 (x : Int)] := World.ownsRow_lit wq #[.int .i64 (x : Int)] 1 (Nat.le_refl _) (by unfold maxLen; omega) rfl
      have HOWN0 := hid hown0
      clear hown0
      go_wp2_with (at_builtin; refine wpList_append_lie rfl (.tmp 26) (.tmp 27) 34 rfl wq.heap.size 3 (.int .i64 0) 8 Try.underlying34 infoI64 rfl rfl HOWN0.out (ivs_length _) rfl HL7.out (ivs_one _) (by unfold maxLen; omega) (by omega) (by simp) ?_)
      intro v2 w2 hown2 hg2 _
      have hown3 : OwnI w2 wq.heap.size v2 (x :: dg R0) := by
        unfold OwnI
        rw [List.length_cons, Nat.add_comm]
        exact hown2
      have hB2q : Below wq.heap.size wq w2 := ((Below.refl _ _).alloc (Nat.le_refl _) _).grown hg2 (by simp) (fun q h => own_lt HOWN0.out q h)
      obtain ⟨A2, c2, rfl, hS2⟩ := own_sl hown3
      have hne : ∀ b o sp, A2 = some ⟨b, o, sp⟩ → wq.heap.size ≤ b := fun b o sp e => by subst e; exact own_lt hown3 b (by simp [Value.ownBlock])
      have HNE := hid hne
      clear hne
      have HT := trim_any A2 (x :: dg R0) c2 w2.heap.size w2 hS2.sq (dgs_cons hx1 (dg_dgs _)) (by rw [List.length_cons]; omega)
      rw [HRV.out] at HT
      have HT := hid HT; have HB2Q := hid hB2q
      clear hown2 hg2 hown3 hB2q hS2 HL7 HOWN0 hcx
      go_wp2_with fail
      refine HT.out.mono ?_
      rintro e w' ⟨rfl, hSR, rfl⟩
      have HSR := hid hSR
      have hB2 : Below w.heap.size w w2 := HB.out.trans (HB2Q.out.mono HB.out.size)
      have HB2 := hid hB2
      have HS2' := hid ((HS'.out.below hB2).more hB2.size)
      have hRl : (dg R).length ≤ 1073741824 := by
        have h1 : R < 32768 * b := (Nat.div_lt_iff_lt_mul hb0).1 hq2
        have h2 : R < 32768 ^ ((dg b).length + 1) := Nat.lt_of_lt_of_le h1 (by rw [Nat.pow_succ, Nat.mul_comm]; exact Nat.mul_le_mul_right _ (Nat.le_of_lt (dg_lt b)))
        have := (dg_length_le R _).2 h2
        omega
      clear hSR hB2 HT
      go_wp2
      refine halves_loop R b A' c' A2 c2 w2 _ _ _ _ _ _ _ _ _ _ _ _ _ _ _ _ _ _ _ _ _ _ _ _ _ _ _ _ _ _ _ _ _ _ _ _ _ _ _ _ _ _ _ _ _ _ _ _ _ _ _ _ _ _ _ _ _ _ HS2'.out HSR.out hl' (by omega) hb0 hq2 ?_
      intro w3 u10 u11 u30 u31 u32 u33 u34 u35 u36 u37 u38 u39 u40 u41 u42 u43 u44 u45 u46 u47 hb3
      obtain ⟨q, hqd⟩ : ∃ q, q = R / b := ⟨_, rfl⟩
      have hqv : q = a / b / 32768 ^ i % 32768 := by rw [hqd]; exact HQ.out
      have hql : q < 32768 := by rw [hqd]; exact hq2
      rw [← hqd]
      have hB3q : Below wq.heap.size wq w3 := HB2Q.out.trans (hb3.mono HB2Q.out.size)
      have hrow3 : w3.heap[w.heap.size]? = some (.cells (ivs L).toArray 3 (0, 0)) := (hB3q.block _ hsz).trans HROW.out
      have hcq := ivs_cell hrow3 i (by rw [HLL.out]; omega)
      have hfz : w3.frozen? ⟨w.heap.size, i, none⟩ = false := frozen_of_row _ _ _ _ _ hrow3
      have hrow4 := block_set hrow3 i (.int .i64 (q : Int))
      rw [ivs_set] at hrow4
      have hB3 : Below w.heap.size w w3 := HB.out.trans (hB3q.mono HB.out.size)
      obtain ⟨w4, hw4⟩ : ∃ w4, w4 = w3.setCell ⟨w.heap.size, i, none⟩ (.int .i64 (q : Int)) := ⟨_, rfl⟩
      have HROW4 : Hid (w4.heap[w.heap.size]? = some (.cells (ivs (L.set i q)).toArray 3 (0, 0))) := hid (by rw [hw4]; exact hrow4)
      have HB4 : Hid (Below w.heap.size w w4) := hid (by rw [hw4]; exact hB3.setCell (Nat.le_refl _) _)
      have HSR4 : Hid (Sq w4 w4.heap.size A2 c2 (ivs (dg R))) := hid (by
        have h3 : Sq w3 w3.heap.size A2 c2 (ivs (dg R)) := (HSR.out.below hb3).more hb3.size
        rw [hw4]
        exact (Sq.other h3 (grown_setCell w3 w.heap.size i none _) (Nat.le_refl _) (fun _ b o sp e => by have := HNE.out b o sp e; omega)).more (by simp))
      have f4 : IntKind.u64.wrap (q : Int) = (q : Int) := by rw [IntKind.wrap_u64]; omega
      have HNUM := hid (Num_any q w4 (by omega))
      have hqdl : (dg q).length ≤ 1073741824 := by
        have := (dg_length_le q 2).2 (by omega); omega
      have HQV := hid hqv; have HQD := hid hqd
      clear hqv hqd hB3q hrow3 hrow4 hB3 hb3 HSR HS2' HB2 HB2Q
      have hlen : (i : Int) < (la : Int) := hil
      go_wp2_with fail
      rw [← hw4]
      clear hw4 hcq hfz
      refine HNUM.out.mono ?_
      rintro e w5 ⟨A8, c8, rfl, hS8, hb5⟩
      have hB5 : Below w.heap.size w w5 := HB4.out.trans (hb5.mono HB4.out.size)
      have HMUL := hid (Mul_any b q A' A8 c' c8 w5 ((HS'.out.below hB5).more hB5.size) hS8 (by omega) hqdl)
      have HB45 := hid hb5; have HB5 := hid hB5
      clear hS8 hb5 hB5 HNUM
      go_wp2_with fail
      refine HMUL.out.mono ?_
      rintro e w6 ⟨A9, c9, rfl, hS9, hb6⟩
      have hb46 : Below w4.heap.size w4 w6 := HB45.out.trans (hb6.mono HB45.out.size)
      have hle : b * q ≤ R := by rw [HQD.out]; exact Nat.mul_div_le R b
      have hsub : R - b * q = a / 32768 ^ i % b := by
        rw [← HRM.out, HQD.out]
        have := Nat.div_add_mod R b
        omega
      have HSUB := Sub_any R (b * q) A2 A9 c2 c9 w6 ((HSR4.out.below hb46).more hb46.size) hS9 (by omega) hle
      rw [hsub] at HSUB
      have HSUB := hid HSUB; have HB46 := hid hb46
      clear hS9 hb6 hb46 hle hsub HMUL HB45
      go_wp2_with fail
      refine HSUB.out.mono ?_
      rintro e w7 ⟨A6, c6, rfl, hS6, hb7⟩
      have hb47 : Below w4.heap.size w4 w7 := HB46.out.trans (hb7.mono HB46.out.size)
      have hwl : w.heap.size < w4.heap.size := block_lt HROW4.out
      have hrow7 : w7.heap[w.heap.size]? = some (.cells (ivs (L.set i q)).toArray 3 (0, 0)) := (hb47.block _ hwl).trans HROW4.out
      have HS6 := hid hS6; have HROW7 := hid hrow7; have HB7 := hid (HB4.out.trans (hb47.mono HB4.out.size))
      have hLd2 : ∀ j, i ≤ j → j < la → (L.set i q).getD j 0 = a / b / 32768 ^ j % 32768 := fun j h1 h2 => by
        by_cases e : i = j
        · subst e
          rw [List.getD_eq_getElem?_getD, List.getElem?_set_self (by rw [HLL.out]; exact h2)]
          exact HQV.out
        · rw [List.getD_eq_getElem?_getD, List.getElem?_set_ne e, ← List.getD_eq_getElem?_getD]
          exact HLD.out j (by omega) h2
      have HLD2 := hid hLd2; have HD2 := hid (Dgs.set HD.out i q hql)
      have HLL2 : Hid ((L.set i q).length = la) := hid (by rw [List.length_set]; exact HLL.out)
      clear hS6 hb7 hb47 hrow7 hLd2 HSUB HB46 HROW4 HSR4 HNE HLD HROW HD
      have f5 : IntKind.i64.wrap ((i : Int) - 1) = (i : Int) - 1 := IntWalk.i64_in _ (by omega)
      go_wp2
      have hgk := HGK.out
      go_roundg i
      case measure => omega
      case rel => exact ⟨i, A6, c6, _, rfl, rfl, rfl, HS6.out, HROW7.out, HLL2.out, HLD2.out, HD2.out, HB7.out, by omega⟩
theorem Div_any (a b : Nat) (A A' : Option Addr) (c c' : Nat) (w : World) (hS : Sq w w.heap.size A c (ivs (dg a))) (hS' : Sq w w.heap.size A' c' (ivs (dg b))) (hl : (dg a).length ≤ 1048576) (hl' : (dg b).length ≤ 1048576) (hb0 : 0 < b) :
    Calls Try.prog 14 #[.slice A (dg a).length c, .slice A' (dg b).length c'] w fun e w' => ∃ A1 c1 A2 c2, e = .returned (.tuple #[.slice A1 (dg (a / b)).length c1, .slice A2 (dg (a % b)).length c2]) ∧ Sq w' w'.heap.size A1 c1 (ivs (dg (a / b))) ∧ Sq w' w'.heap.size A2 c2 (ivs (dg (a % b))) ∧ Below w.heap.size w w' :=
  (Div_at a b A A' c c' w hS hS' hl hl' hb0).mono fun e w' h => by
    obtain ⟨c1, A2, c2, h⟩ := h
    exact ⟨_, c1, A2, c2, h⟩
end Go.Proofs.Ytealegfmmeklcaa
