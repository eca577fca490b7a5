/-
  The statement FieldPow: the walk.
-/
import Derived.Test.YtjchifaclfghaaaLaw06b
namespace Go.Proofs.Ytjchifaclfghaaa
open Go.RowKit
set_option linter.unusedVariables false
set_option linter.unusedSimpArgs false

/-- A number of the field in a block, one of the document, and bytes. -/
def Pw (w wr : World) (g X : Nat) (A : Option Addr) (c : Nat) (A' : Option Addr) (es : List UInt8) (c' : Nat) : Prop :=
  wr.heap[g]? = some (.cells (eA X) ET (0, 0)) ∧ Sq wr wr.heap.size A c (ivs (dg X)) ∧ Sq wr wr.heap.size A' c' (bvs es) ∧ Below w.heap.size w wr ∧ w.heap.size ≤ g
theorem Pw.call {w wr w' : World} {g X : Nat} {A A' : Option Addr} {es : List UInt8} {c c' : Nat} (h : Pw w wr g X A c A' es c') (hb : Below wr.heap.size wr w') : Pw w w' g X A c A' es c' := by
  obtain ⟨h0, h2, h3, h4, h5⟩ := h
  exact ⟨block_below hb (block_lt h0) h0, h2.on6 hb, h3.on6 hb, h4.trans (hb.mono h4.size), h5⟩
theorem row_words {wr : World} {g X : Nat} (h : wr.heap[g]? = some (.cells (eA X) ET (0, 0))) {a b d e : Nat} (hx : eA X = e4 a b d e) : wr.cell? ⟨g, 0, none⟩ = some (.int .u64 (a : Int)) ∧ wr.cell? ⟨g, 1, none⟩ = some (.int .u64 (b : Int)) ∧ wr.cell? ⟨g, 2, none⟩ = some (.int .u64 (d : Int)) ∧ wr.cell? ⟨g, 3, none⟩ = some (.int .u64 (e : Int)) := by
  rw [hx] at h
  exact ⟨cell_of h 0 _ rfl, cell_of h 1 _ rfl, cell_of h 2 _ rfl, cell_of h 3 _ rfl⟩
theorem half_bytes : leN (leB 32 (pp / 2)) = (pp - 1) / 2 := by
  rw [leN_leB, Nat.mod_eq_of_lt (by decide +kernel)]
  decide +kernel

set_option maxRecDepth 100000 in
set_option maxHeartbeats 4000000 in
theorem pow_any (A : Option Addr) (xs : List UInt8) (c : Nat) (A' : Option Addr) (es : List UInt8) (c' : Nat) (w : World) (hS : Sq w w.heap.size A c (bvs xs)) (hS' : Sq w w.heap.size A' c' (bvs es)) :
    Calls Try.prog 4 #[.slice A xs.length c, .slice A' es.length c'] w fun e w' => e = .returned (.bool true) ∧ Below w.heap.size w w' := by
  have HS := hid hS; have HS' := hid hS'
  have HAL := hid alive6_any
  clear hS hS'
  by_cases hx : 60 < xs.length
  · have hxi : (60 : Int) < (xs.length : Int) := by omega
    clear hx
    go_enter Try.func4, Try.ntmps4
    go_wp2_with fail
    refine (HAL.out _).mono ?_
    rintro e w1 ⟨rfl, hb1⟩
    go_wp2
    go_ret
    exact ⟨rfl, hb1⟩
  have hxi : ¬ (60 : Int) < (xs.length : Int) := by omega
  by_cases hy : 8 < es.length
  · have hyi : (8 : Int) < (es.length : Int) := by omega
    clear hx hy
    go_enter Try.func4, Try.ntmps4
    go_wp2_with fail
    refine (HAL.out _).mono ?_
    rintro e w1 ⟨rfl, hb1⟩
    go_wp2
    go_ret
    exact ⟨rfl, hb1⟩
  have hyi : ¬ (8 : Int) < (es.length : Int) := by omega
  have HOX := hid (fun W h => Of_e A xs c W h)
  have HFX := hid (fun W h => First_any A xs c W h (by omega))
  have HEL := hid (show es.length ≤ 1000000 by omega)
  obtain ⟨X, hX⟩ : ∃ X, X = ofN xs := ⟨_, rfl⟩
  have hXl : X < pp := by rw [hX]; exact ofN_lt xs
  rw [← hX] at HOX HFX
  obtain ⟨a, b, cc, d, ha, hb, hc, hd, hxv, ex⟩ := words X (pp_lt hXl)
  have HEX := hid ex
  clear ha hb hc hd hxv hX hx hy
  have HPE := hid (fun W h => Pow_e X A' es c' W hXl h HEL.out)
  have HPR := hid (fun A c W h h' => Pow6_any X A c A' es c' W h h' hXl HEL.out)
  have HIP := hid (fun A c W h => Is_any (X ^ leN es % pp) A c W h (Nat.mod_lt _ pp_pos))
  obtain ⟨S1, hS1⟩ : ∃ S, S = X ^ leN es % pp := ⟨_, rfl⟩
  rw [← hS1] at HPE HPR HIP
  have HVE := hid (fun W => Inv_e X W hXl)
  have HVR := hid (fun A c W h => Inv6_any X A c W h hXl)
  have HIV := hid (fun A c W h => Is_any (X ^ (pp - 2) % pp) A c W h (Nat.mod_lt _ pp_pos))
  obtain ⟨S2, hS2⟩ : ∃ S, S = X ^ (pp - 2) % pp := ⟨_, rfl⟩
  rw [← hS2] at HVE HVR HIV
  have HRE := hid (fun W => Root_e X W hXl)
  have hiff := rt_iff hXl
  have hdec : decide (rt2 X * rt2 X % pp = X) = decide (half X = 0 ∨ half X = 1) := decide_eq_decide.2 hiff
  have hrn : (half X = 0 ∨ half X = 1) → rootN X * rootN X % pp = X ∧ rootN X % 2 = 0 := fun h => by
    have h2 := hiff.2 h
    unfold rootN
    rw [if_pos h2]
    exact ⟨rt3_sq h2, rt3_even X⟩
  have hr0 : ¬ (half X = 0 ∨ half X = 1) → rootN X = 0 := fun h => by
    unfold rootN
    rw [if_neg (fun h2 => h (hiff.1 h2))]
  have hrl : rootN X < pp := by
    unfold rootN
    split
    · exact rt3_lt X
    · exact pp_pos
  obtain ⟨R, hR⟩ : ∃ R, R = rootN X := ⟨_, rfl⟩
  obtain ⟨D, hD⟩ : ∃ D, D = decide (rt2 X * rt2 X % pp = X) := ⟨_, rfl⟩
  rw [← hR, ← hD] at HRE
  rw [← hR] at hrn hr0 hrl
  rw [← hD] at hdec
  obtain ⟨ra, rb, rc, rd, hra, hrb, hrc, hrd, hrv, er⟩ := words R (pp_lt hrl)
  have HER := hid er
  have HP := hid P_any
  have HN2 : Hid (∀ W, Calls Try.prog 12 #[.int .u64 2] W (BigR W 2)) := hid fun W => Num_any 2 W (by omega)
  have HN1 : Hid (∀ W, Calls Try.prog 12 #[.int .u64 1] W (BigR W 1)) := hid fun W => Num_any 1 W (by omega)
  have HDV : Hid (∀ W A c A' c', Sq W W.heap.size A c (ivs (dg pp)) → Sq W W.heap.size A' c' (ivs (dg 2)) → Calls Try.prog 30 #[.slice A (dg pp).length c, .slice A' (dg 2).length c'] W fun e w' => ∃ A1 c1 A2 c2, e = .returned (.tuple #[.slice A1 (dg (pp / 2)).length c1, .slice A2 (dg (pp % 2)).length c2]) ∧ Sq w' w'.heap.size A1 c1 (ivs (dg (pp / 2))) ∧ Below W.heap.size W w') := hid fun W A c A' c' h h' =>
    (Div_any pp 2 A A' c c' W h h' (Nat.le_trans ((dg_length_le pp 17).2 pp_dig) (by omega)) (Nat.le_trans ((dg_length_le 2 17).2 (by decide +kernel)) (by omega)) (by omega)).mono fun e w' h => by
      obtain ⟨A1, c1, A2, c2, h1, h2, _, h4⟩ := h
      exact ⟨A1, c1, A2, c2, h1, h2, h4⟩
  have HBY : Hid (∀ W A c, Sq W W.heap.size A c (ivs (dg (pp / 2))) → Calls Try.prog 32 #[.slice A (dg (pp / 2)).length c, .int .i64 32] W fun e w' => ∃ v, e = .returned v ∧ OwnB w' W.heap.size v (leB 32 (pp / 2)) ∧ Below W.heap.size W w') := hid fun W A c h =>
    Bytes6_any (pp / 2) 32 A c W h (by decide +kernel) (by omega)
  have HHW : Hid (∀ W A c A' c', Sq W W.heap.size A c (ivs (dg X)) → Sq W W.heap.size A' c' (bvs (leB 32 (pp / 2))) → Calls Try.prog 26 #[.slice A (dg X).length c, .slice A' 32 c'] W (BigR W (half X))) := hid fun W A c A' c' h h' => by
    have hp := Pow6_any X A c A' (leB 32 (pp / 2)) c' W h h' hXl (by rw [leB_length]; omega)
    rw [leB_length, half_bytes] at hp
    exact hp
  have hhl : half X < pp := Nat.mod_lt _ pp_pos
  obtain ⟨H, hH⟩ : ∃ H, H = half X := ⟨_, rfl⟩
  rw [← hH] at HHW hrn hr0 hdec hhl
  have HSH := hid (fun A A' c c' B B' W h h' => Same6_any H 1 A A' c c' B B' W h h' hhl (by decide +kernel))
  have hdn := dg_nought H
  have HZR := hid (fun W => Zero_e R W hrl)
  have HQR := hid (fun W => Square_e R W hrl)
  have HSR := hid (fun W => Same_e (R * R % pp) X W (Nat.mod_lt _ pp_pos) hXl)
  have HOR := hid (fun W => Odd_e R W hrl)
  obtain ⟨Q2, hQ2⟩ : ∃ Q, Q = R * R % pp := ⟨_, rfl⟩
  rw [← hQ2] at HQR HSR hrn
  obtain ⟨q2, hq2⟩ : ∃ q, q = pp / 2 := ⟨_, rfl⟩
  obtain ⟨m2, hm2⟩ : ∃ q, q = pp % 2 := ⟨_, rfl⟩
  rw [← hq2] at HDV HBY HHW
  rw [← hm2] at HDV
  rw [HEX.out] at HOX HPE HVE HRE HSR
  rw [HER.out] at HRE HZR HQR HOR
  have HRN := hid hrn; have HR0 := hid hr0; have HDEC := hid hdec; have HDN := hid hdn
  clear hS1 hS2 hXl hiff hdec hrn hr0 hrl hR hD hra hrb hrc hrd hrv er hhl hH hdn hQ2 hq2 hm2 ex
  go_enter Try.func4, Try.ntmps4
  go_wp2_with fail
  refine (HAL.out _).mono ?_
  rintro e w1 ⟨rfl, hb1⟩
  have HB1 := hid hb1; have HS1 := hid (HS.out.on6 hb1); have HS1' := hid (HS'.out.on6 hb1)
  clear hb1 HS HS' HAL
  go_wp2_with fail
  refine (HOX.out _ HS1.out).mono ?_
  rintro e w2 ⟨rfl, hb2⟩
  have HB2 := hid (HB1.out.trans (hb2.mono HB1.out.size)); have HS2 := hid (HS1.out.on6 hb2); have HS2' := hid (HS1'.out.on6 hb2)
  clear hb2 HS1 HS1' HB1 HOX
  go_wp2_with fail
  refine (HFX.out _ HS2.out).mono ?_
  rintro e w3 ⟨Ap, cp, rfl, hSp, hb3⟩
  have hba : Below w3.heap.size w3 (w3.alloc (.cells (e4 a b cc d) ET)) := (Below.refl _ _).alloc (Nat.le_refl _) _
  have hb3a := hb3.trans (hba.mono hb3.size)
  have F4 : Hid (Pw w (w3.alloc (.cells (e4 a b cc d) ET)) w3.heap.size X Ap cp A' es c') := hid ⟨by rw [HEX.out]; exact blkN rfl _ ET, hSp.on6 hba, HS2'.out.on6 hb3a, HB2.out.trans (hb3a.mono HB2.out.size), Nat.le_trans HB2.out.size hb3.size⟩
  obtain ⟨g, hg⟩ : ∃ g, g = w3.heap.size := ⟨_, rfl⟩
  clear hba hb3a hSp hb3 HB2 HS2 HS2' HFX
  obtain ⟨x0, x1, x2, x3⟩ := row_words F4.out.1 HEX.out
  go_wp2_with fail
  refine (HPE.out _ F4.out.2.2.1).mono ?_
  rintro e w5 ⟨rfl, hb⟩
  have F5 := hid (F4.out.call hb)
  rw [← hg] at F5 ⊢
  clear hb F4 x0 x1 x2 x3 hg
  obtain ⟨x0, x1, x2, x3⟩ := row_words F5.out.1 HEX.out
  go_wp2_with fail
  refine (HPR.out Ap cp _ F5.out.2.1 F5.out.2.2.1).mono ?_
  rintro e w6 ⟨A10, cA10, rfl, hA10, hb⟩
  have F6 := hid (F5.out.call hb)
  have HA10 := hid hA10
  clear hb F5 x0 x1 x2 x3 hA10
  obtain ⟨x0, x1, x2, x3⟩ := row_words F6.out.1 HEX.out
  go_wp2_with fail
  refine (HIP.out A10 cA10 _ HA10.out).mono ?_
  rintro e w7 ⟨rfl, hb⟩
  have F7 := hid (F6.out.call hb)
  clear hb F6 x0 x1 x2 x3
  obtain ⟨x0, x1, x2, x3⟩ := row_words F7.out.1 HEX.out
  go_wp2_with fail
  refine (HVE.out _).mono ?_
  rintro e w8 ⟨rfl, hb⟩
  have F8 := hid (F7.out.call hb)
  clear hb F7 x0 x1 x2 x3
  obtain ⟨x0, x1, x2, x3⟩ := row_words F8.out.1 HEX.out
  go_wp2_with fail
  refine (HVR.out Ap cp _ F8.out.2.1).mono ?_
  rintro e w9 ⟨A11, cA11, rfl, hA11, hb⟩
  have F9 := hid (F8.out.call hb)
  have HA11 := hid hA11
  clear hb F8 x0 x1 x2 x3 hA11
  obtain ⟨x0, x1, x2, x3⟩ := row_words F9.out.1 HEX.out
  go_wp2_with fail
  refine (HIV.out A11 cA11 _ HA11.out).mono ?_
  rintro e w10 ⟨rfl, hb⟩
  have F10 := hid (F9.out.call hb)
  clear hb F9 x0 x1 x2 x3
  obtain ⟨x0, x1, x2, x3⟩ := row_words F10.out.1 HEX.out
  go_wp2_with fail
  refine (HRE.out _).mono ?_
  rintro e w20 ⟨rfl, hb⟩
  have F20 := hid (F10.out.call hb)
  clear hb F10 x0 x1 x2 x3
  have hba : Below w20.heap.size w20 (w20.alloc (.cells (e4 ra rb rc rd) ET)) := (Below.refl _ _).alloc (Nat.le_refl _) _
  have F21 := hid (F20.out.call hba)
  have G21 : Hid ((w20.alloc (.cells (e4 ra rb rc rd) ET)).heap[w20.heap.size]? = some (.cells (eA R) ET (0, 0))) := hid (by rw [HER.out]; exact blkN rfl _ ET)
  clear F20 hba
  go_wp2_with fail
  refine (HP.out _).mono ?_
  rintro e w22 ⟨A12, c12, rfl, h12, hb⟩
  have F22 := hid (F21.out.call hb); have G22 := hid (block_below hb (block_lt G21.out) G21.out); have H12 := hid h12
  obtain ⟨h, hh⟩ : ∃ h, h = w20.heap.size := ⟨_, rfl⟩
  rw [← hh] at G22 ⊢
  clear hb F21 G21 h12 hh HP
  go_wp2_with fail
  refine (HN2.out _).mono ?_
  rintro e w23 ⟨A13, c13, rfl, h13, hb⟩
  have F23 := hid (F22.out.call hb); have G23 := hid (block_below hb (block_lt G22.out) G22.out); have H12' := hid (H12.out.on6 hb); have H13 := hid h13
  clear hb F22 G22 h13 H12 HN2
  go_wp2_with fail
  refine (HDV.out _ _ _ _ _ H12'.out H13.out).mono ?_
  rintro e w24 ⟨A14, c14, A15, c15, rfl, h14, hb⟩
  have F24 := hid (F23.out.call hb); have G24 := hid (block_below hb (block_lt G23.out) G23.out); have H14 := hid h14
  clear hb F23 G23 h14 H12' H13 HDV
  go_wp2_with fail
  refine (HBY.out _ _ _ H14.out).mono ?_
  rintro e w25 ⟨v, rfl, ho, hb⟩
  have F25 := hid (F24.out.call hb); have G25 := hid (block_below hb (block_lt G24.out) G24.out)
  obtain ⟨A17, c17, rfl, h17⟩ := own_sl ho
  rw [leB_length]
  have H17 := hid h17.sq
  clear hb F24 G24 ho h17 H14 HBY
  go_wp2_with fail
  refine (HHW.out _ _ _ _ _ F25.out.2.1 H17.out).mono ?_
  rintro e w26 ⟨A16, c16, rfl, h16, hb⟩
  have F26 := hid (F25.out.call hb); have G26 := hid (block_below hb (block_lt G25.out) G25.out); have H16 := hid h16
  clear hb F25 G25 h16 H17 HHW
  have hdn := HDN.out
  by_cases h0 : H = 0
  · have HC : Hid (H = 0 ∨ H = 1) := hid (.inl h0)
    have hd := HDEC.out.trans (decide_eq_true HC.out)
    rw [decide_eq_true h0] at hdn
    subst hd
    have Fz := F26; have Gz := G26
    clear h0 F26 G26 HSH HN1
    have H1 := HRN.out HC.out
    have HSQ := hid H1.1
    have HOD : Hid (decide (R % 2 = 1) = false) := hid (decide_eq_false (by omega))
    rw [HOD.out] at HOR
    have HST : Hid (decide (Q2 = X) = true) := hid (decide_eq_true H1.1)
    rw [HST.out] at HSR
    clear H1 HSQ HRN HR0 HZR HOD HST
    have FB := hid Fz.out.2.2.2.1
    have SC : Hid (∀ W, Below w26.heap.size w26 W → (W.cell? ⟨h, 0, none⟩ = some (.int .u64 (ra : Int)) ∧ W.cell? ⟨h, 1, none⟩ = some (.int .u64 (rb : Int)) ∧ W.cell? ⟨h, 2, none⟩ = some (.int .u64 (rc : Int)) ∧ W.cell? ⟨h, 3, none⟩ = some (.int .u64 (rd : Int))) ∧ (W.cell? ⟨g, 0, none⟩ = some (.int .u64 (a : Int)) ∧ W.cell? ⟨g, 1, none⟩ = some (.int .u64 (b : Int)) ∧ W.cell? ⟨g, 2, none⟩ = some (.int .u64 (cc : Int)) ∧ W.cell? ⟨g, 3, none⟩ = some (.int .u64 (d : Int))) ∧ Below w26.heap.size w26 W) := hid fun W hW =>
      ⟨row_words (block_below hW (block_lt Gz.out) Gz.out) HER.out, row_words (block_below hW (block_lt Fz.out.1) Fz.out.1) HEX.out, hW⟩
    go_wp2_with fail
    go_region_held3 (fun w' => (w'.cell? ⟨h, 0, none⟩ = some (.int .u64 (ra : Int)) ∧ w'.cell? ⟨h, 1, none⟩ = some (.int .u64 (rb : Int)) ∧ w'.cell? ⟨h, 2, none⟩ = some (.int .u64 (rc : Int)) ∧ w'.cell? ⟨h, 3, none⟩ = some (.int .u64 (rd : Int))) ∧ (w'.cell? ⟨g, 0, none⟩ = some (.int .u64 (a : Int)) ∧ w'.cell? ⟨g, 1, none⟩ = some (.int .u64 (b : Int)) ∧ w'.cell? ⟨g, 2, none⟩ = some (.int .u64 (cc : Int)) ∧ w'.cell? ⟨g, 3, none⟩ = some (.int .u64 (d : Int))) ∧ Below w26.heap.size w26 w')
      (first
        | exact SC.out _ hB9 | exact SC.out _ hB8 | exact SC.out _ hB7
        | exact SC.out _ (Below.refl _ _).drew)
      (first
        | (go_at_call 20; (with_reducible refine Calls.mono (HQR.out _) ?_); rintro e w7 ⟨rfl, hb7⟩; have hB7 : Below w26.heap.size w26 w7 := (Below.refl _ w26).drew.trans (hb7.mono (Nat.le_refl _)))
        | (go_at_call 21; (with_reducible refine Calls.mono (HSR.out _) ?_); rintro e w8 ⟨rfl, hb8⟩; have hB8 := hB7.trans (hb8.mono hB7.size))
        | (go_at_call 24; (with_reducible refine Calls.mono (HOR.out _) ?_); rintro e w9 ⟨rfl, hb9⟩; have hB9 := hB8.trans (hb9.mono hB8.size)))
    all_goals go_wp2
    all_goals go_ret
    all_goals exact ⟨rfl, FB.out.trans (hB9.mono FB.out.size)⟩
  · rw [decide_eq_false h0] at hdn
    by_cases h1 : H = 1
    · have HC : Hid (H = 0 ∨ H = 1) := hid (.inr h1)
      have hd := HDEC.out.trans (decide_eq_true HC.out)
      have HT := hid (decide_eq_true h1)
      rw [HT.out] at HSH
      subst hd
      clear h0 h1 HT
      go_wp2_with fail
      refine (HN1.out _).mono ?_
      rintro e w27 ⟨A18, c18, rfl, h18, hb⟩
      have F27 := hid (F26.out.call hb); have G27 := hid (block_below hb (block_lt G26.out) G26.out); have H16' := hid (H16.out.on6 hb); have H18 := hid h18
      clear hb F26 G26 h18 H16 HN1
      go_wp2_with fail
      refine (HSH.out _ _ _ _ _ _ _ H16'.out H18.out).mono ?_
      rintro e w28 ⟨rfl, q28, rfl⟩
      have hbd := belowB_drewN (Below.refl w27.heap.size w27) q28
      have Fz := hid (F27.out.call hbd); have Gz := hid (block_below hbd (block_lt G27.out) G27.out)
      clear hbd F27 G27 H16' H18 HSH
      generalize w27.drewN q28 = wz at *
      have H1 := HRN.out HC.out
      have HSQ := hid H1.1
      have HOD : Hid (decide (R % 2 = 1) = false) := hid (decide_eq_false (by omega))
      rw [HOD.out] at HOR
      have HST : Hid (decide (Q2 = X) = true) := hid (decide_eq_true H1.1)
      rw [HST.out] at HSR
      clear H1 HSQ HRN HR0 HZR HOD HST
      have FB := hid Fz.out.2.2.2.1
      have SC : Hid (∀ W, Below wz.heap.size wz W → (W.cell? ⟨h, 0, none⟩ = some (.int .u64 (ra : Int)) ∧ W.cell? ⟨h, 1, none⟩ = some (.int .u64 (rb : Int)) ∧ W.cell? ⟨h, 2, none⟩ = some (.int .u64 (rc : Int)) ∧ W.cell? ⟨h, 3, none⟩ = some (.int .u64 (rd : Int))) ∧ (W.cell? ⟨g, 0, none⟩ = some (.int .u64 (a : Int)) ∧ W.cell? ⟨g, 1, none⟩ = some (.int .u64 (b : Int)) ∧ W.cell? ⟨g, 2, none⟩ = some (.int .u64 (cc : Int)) ∧ W.cell? ⟨g, 3, none⟩ = some (.int .u64 (d : Int))) ∧ Below wz.heap.size wz W) := hid fun W hW =>
        ⟨row_words (block_below hW (block_lt Gz.out) Gz.out) HER.out, row_words (block_below hW (block_lt Fz.out.1) Fz.out.1) HEX.out, hW⟩
      go_wp2_with fail
      go_region_held3 (fun w' => (w'.cell? ⟨h, 0, none⟩ = some (.int .u64 (ra : Int)) ∧ w'.cell? ⟨h, 1, none⟩ = some (.int .u64 (rb : Int)) ∧ w'.cell? ⟨h, 2, none⟩ = some (.int .u64 (rc : Int)) ∧ w'.cell? ⟨h, 3, none⟩ = some (.int .u64 (rd : Int))) ∧ (w'.cell? ⟨g, 0, none⟩ = some (.int .u64 (a : Int)) ∧ w'.cell? ⟨g, 1, none⟩ = some (.int .u64 (b : Int)) ∧ w'.cell? ⟨g, 2, none⟩ = some (.int .u64 (cc : Int)) ∧ w'.cell? ⟨g, 3, none⟩ = some (.int .u64 (d : Int))) ∧ Below wz.heap.size wz w')
        (first
          | exact SC.out _ hB9 | exact SC.out _ hB8 | exact SC.out _ hB7
          | exact SC.out _ (Below.refl _ _).drew)
        (first
          | (go_at_call 20; (with_reducible refine Calls.mono (HQR.out _) ?_); rintro e w7 ⟨rfl, hb7⟩; have hB7 : Below wz.heap.size wz w7 := (Below.refl _ wz).drew.trans (hb7.mono (Nat.le_refl _)))
          | (go_at_call 21; (with_reducible refine Calls.mono (HSR.out _) ?_); rintro e w8 ⟨rfl, hb8⟩; have hB8 := hB7.trans (hb8.mono hB7.size))
          | (go_at_call 24; (with_reducible refine Calls.mono (HOR.out _) ?_); rintro e w9 ⟨rfl, hb9⟩; have hB9 := hB8.trans (hb9.mono hB8.size)))
      all_goals go_wp2
      all_goals go_ret
      all_goals exact ⟨rfl, FB.out.trans (hB9.mono FB.out.size)⟩
    · have HC : Hid (¬ (H = 0 ∨ H = 1)) := hid (by omega)
      have hd := HDEC.out.trans (decide_eq_false HC.out)
      have HT := hid (decide_eq_false h1)
      rw [HT.out] at HSH
      have HRZ := hid (HR0.out HC.out)
      have HZT := hid (decide_eq_true HRZ.out)
      rw [HZT.out] at HZR
      subst hd
      clear h0 h1 HT HRZ HZT HRN HR0
      go_wp2_with fail
      refine (HN1.out _).mono ?_
      rintro e w27 ⟨A18, c18, rfl, h18, hb⟩
      have F27 := hid (F26.out.call hb); have G27 := hid (block_below hb (block_lt G26.out) G26.out); have H16' := hid (H16.out.on6 hb); have H18 := hid h18
      clear hb F26 G26 h18 H16 HN1
      go_wp2_with fail
      refine (HSH.out _ _ _ _ _ _ _ H16'.out H18.out).mono ?_
      rintro e w28 ⟨rfl, q28, rfl⟩
      have hbd := belowB_drewN (Below.refl w27.heap.size w27) q28
      have Fz := hid (F27.out.call hbd); have Gz := hid (block_below hbd (block_lt G27.out) G27.out)
      clear hbd F27 G27 H16' H18 HSH
      obtain ⟨r0, r1, r2, r3⟩ := row_words Gz.out HER.out
      go_wp2_with fail
      refine (HZR.out _).mono ?_
      rintro e w29 ⟨rfl, hb⟩
      have FE := hid (Fz.out.2.2.2.1.trans (hb.mono Fz.out.2.2.2.1.size))
      clear hb r0 r1 r2 r3
      go_wp2
      go_ret
      exact ⟨rfl, FE.out⟩
end Go.Proofs.Ytjchifaclfghaaa
