/-
  The statement FieldTwo: the walk.
-/
import Derived.Test.YtjchifaclfghaaaLaw06a
import Derived.Test.YtjchifaclfghaaaLowG
namespace Go.Proofs.Ytjchifaclfghaaa
open Go.RowKit
set_option linter.unusedVariables false
set_option linter.unusedSimpArgs false

/-- Two numbers of the field in blocks, and two of the document. -/
def Tw (w wr : World) (g X Y : Nat) (A : Option Addr) (c : Nat) (A' : Option Addr) (c' : Nat) : Prop :=
  wr.heap[g]? = some (.cells (eA X) ET (0, 0)) ∧ wr.heap[g + 1]? = some (.cells (eA Y) ET (0, 0)) ∧ Sq wr wr.heap.size A c (ivs (dg X)) ∧ Sq wr wr.heap.size A' c' (ivs (dg Y)) ∧ Below w.heap.size w wr ∧ w.heap.size ≤ g
theorem Tw.call {w wr w' : World} {g X Y : Nat} {A A' : Option Addr} {c c' : Nat} (h : Tw w wr g X Y A c A' c') (hb : Below wr.heap.size wr w') : Tw w w' g X Y A c A' c' := by
  obtain ⟨h0, h1, h2, h3, h4, h5⟩ := h
  exact ⟨block_below hb (block_lt h0) h0, block_below hb (block_lt h1) h1, h2.on6 hb, h3.on6 hb, h4.trans (hb.mono h4.size), h5⟩
theorem Tw.x {w wr : World} {g X Y : Nat} {A A' : Option Addr} {c c' : Nat} (h : Tw w wr g X Y A c A' c') {a b d e : Nat} (hx : eA X = e4 a b d e) : wr.cell? ⟨g, 0, none⟩ = some (.int .u64 (a : Int)) ∧ wr.cell? ⟨g, 1, none⟩ = some (.int .u64 (b : Int)) ∧ wr.cell? ⟨g, 2, none⟩ = some (.int .u64 (d : Int)) ∧ wr.cell? ⟨g, 3, none⟩ = some (.int .u64 (e : Int)) := by
  have h0 := h.1
  rw [hx] at h0
  exact ⟨cell_of h0 0 _ rfl, cell_of h0 1 _ rfl, cell_of h0 2 _ rfl, cell_of h0 3 _ rfl⟩
theorem Tw.y {w wr : World} {g X Y : Nat} {A A' : Option Addr} {c c' : Nat} (h : Tw w wr g X Y A c A' c') {a b d e : Nat} (hy : eA Y = e4 a b d e) : wr.cell? ⟨g + 1, 0, none⟩ = some (.int .u64 (a : Int)) ∧ wr.cell? ⟨g + 1, 1, none⟩ = some (.int .u64 (b : Int)) ∧ wr.cell? ⟨g + 1, 2, none⟩ = some (.int .u64 (d : Int)) ∧ wr.cell? ⟨g + 1, 3, none⟩ = some (.int .u64 (e : Int)) := by
  have h0 := h.2.1
  rw [hy] at h0
  exact ⟨cell_of h0 0 _ rfl, cell_of h0 1 _ rfl, cell_of h0 2 _ rfl, cell_of h0 3 _ rfl⟩
theorem two_rest {X V : Nat} (h : V = X % 18446744073709551616) : V % 2 = X % 2 := by omega
theorem dg_nought (X : Nat) : ((((dg X).length : Nat) : Int) == 0) = decide (X = 0) := by
  by_cases h : X = 0
  · subst h; rw [dg_zero]; rfl
  · rw [dg_pos X h, decide_eq_false h, List.length_cons, beq_eq_false_iff_ne]; omega
theorem num_lt {n : Nat} (h : n < 18446744073709551616) : n < pp := Nat.lt_trans h (by decide +kernel)

set_option maxRecDepth 100000 in
set_option maxHeartbeats 4000000 in
theorem two_any (A : Option Addr) (xs : List UInt8) (c : Nat) (A' : Option Addr) (ys : List UInt8) (c' : Nat) (t : Int) (w : World) (hS : Sq w w.heap.size A c (bvs xs)) (hS' : Sq w w.heap.size A' c' (bvs ys)) (ht0 : 0 ≤ t) (ht1 : t ≤ 18446744073709551615) :
    Calls Try.prog 3 #[.slice A xs.length c, .slice A' ys.length c', .int .u64 t] w fun e w' => e = .returned (.bool true) ∧ Below w.heap.size w w' := by
  obtain ⟨n, rfl⟩ := Int.eq_ofNat_of_zero_le ht0
  have hn : n < 18446744073709551616 := by omega
  have HS := hid hS; have HS' := hid hS'
  have HAL := hid alive6_any
  clear hS hS' ht0 ht1
  by_cases hx : 60 < xs.length
  · have hxi : (60 : Int) < (xs.length : Int) := by omega
    clear hx hn
    go_enter Try.func3, Try.ntmps3
    go_wp2_with fail
    refine (HAL.out _).mono ?_
    rintro e w1 ⟨rfl, hb1⟩
    go_wp2
    go_ret
    exact ⟨rfl, hb1⟩
  have hxi : ¬ (60 : Int) < (xs.length : Int) := by omega
  by_cases hy : 60 < ys.length
  · have hyi : (60 : Int) < (ys.length : Int) := by omega
    clear hx hy hn
    go_enter Try.func3, Try.ntmps3
    go_wp2_with fail
    refine (HAL.out _).mono ?_
    rintro e w1 ⟨rfl, hb1⟩
    go_wp2
    go_ret
    exact ⟨rfl, hb1⟩
  have hyi : ¬ (60 : Int) < (ys.length : Int) := by omega
  have HOX := hid (fun W h => Of_e A xs c W h); have HOY := hid (fun W h => Of_e A' ys c' W h)
  have HFX := hid (fun W h => First_any A xs c W h (by omega)); have HFY := hid (fun W h => First_any A' ys c' W h (by omega))
  obtain ⟨X, hX⟩ : ∃ X, X = ofN xs := ⟨_, rfl⟩
  obtain ⟨Y, hY⟩ : ∃ Y, Y = ofN ys := ⟨_, rfl⟩
  have hXl : X < pp := by rw [hX]; exact ofN_lt xs
  have hYl : Y < pp := by rw [hY]; exact ofN_lt ys
  rw [← hX] at HOX HFX
  rw [← hY] at HOY HFY
  obtain ⟨a, b, cc, d, ha, hb, hc, hd, hxv, ex⟩ := words X (pp_lt hXl)
  obtain ⟨a', b', cc', d', ha', hb', hc', hd', hyv, ey⟩ := words Y (pp_lt hYl)
  have HEX := hid ex; have HEY := hid ey
  rw [ex] at HOX
  rw [ey] at HOY
  clear ha hb hc hd hxv ha' hb' hc' hd' hyv hX hY ex ey hx hy
  obtain ⟨V, hV⟩ : ∃ V, V = X % 18446744073709551616 := ⟨_, rfl⟩
  have HLW := hid (fun A c W h => LowG_any X A c W.heap.size W h)
  rw [← hV] at HLW
  have hV2 := two_rest hV
  obtain ⟨r, hr⟩ : ∃ r, r = X % 2 := ⟨_, rfl⟩
  obtain ⟨od, hod⟩ : ∃ od, od = decide (X % 2 = 1) := ⟨_, rfl⟩
  rw [← hr] at hod hV2
  have hm1 : ((V : Int)).tmod 2 = (r : Int) := by rw [Int.tmod_eq_emod_of_nonneg (by omega)]; omega
  have hm2 : (V : Int) % 2 = (r : Int) := by omega
  have hm3 : IntKind.u64.wrap (r : Int) = (r : Int) := by rw [IntKind.wrap_u64]; omega
  have hm4 : ((r : Int) == 1) = od := by rw [hod]; by_cases h : r = 1 <;> simp [h]; omega
  have HOD := hid (fun W => Odd_e X W hXl)
  rw [← hr, ← hod] at HOD
  obtain ⟨zr, hzr⟩ : ∃ zr, zr = decide (X = 0) := ⟨_, rfl⟩
  have hm5 := dg_nought X
  have HZE := hid (fun W => Zero_e X W hXl)
  rw [← hzr] at hm5 HZE
  obtain ⟨sm, hsm⟩ : ∃ sm, sm = decide (X = Y) := ⟨_, rfl⟩
  have HSM := hid (fun W => Same_e X Y W hXl hYl)
  have HSR := hid (fun A A' c c' B B' W h h' => Same6_any X Y A A' c c' B B' W h h' hXl hYl)
  rw [← hsm] at HSM HSR
  have HNE := hid (fun W => Num_e n W hn); have HNR := hid (fun W => Num_any n W hn)
  have hnp := num_lt hn
  have HIN := hid (fun A c W h => Is_any n A c W h hnp)
  have HIX := hid (fun A c W h => Is_any X A c W h hXl)
  have HIY := hid (fun A c W h => Is_any Y A c W h hYl)
  have HAE := hid (fun W => Add_e X Y W hXl hYl); have HAR := hid (fun A A' c c' W h h' => Add6_any X Y A A' c c' W h h' hXl hYl)
  have HIA := hid (fun A c W h => Is_any ((X + Y) % pp) A c W h (Nat.mod_lt _ pp_pos))
  obtain ⟨S1, hS1⟩ : ∃ S, S = (X + Y) % pp := ⟨_, rfl⟩
  rw [← hS1] at HAE HAR HIA
  have HBE := hid (fun W => Sub_e X Y W hXl hYl); have HBR := hid (fun A A' c c' W h h' => Sub6_any X Y A A' c c' W h h' hXl hYl)
  have HIB := hid (fun A c W h => Is_any ((X + (pp - Y)) % pp) A c W h (Nat.mod_lt _ pp_pos))
  obtain ⟨S2, hS2⟩ : ∃ S, S = (X + (pp - Y)) % pp := ⟨_, rfl⟩
  rw [← hS2] at HBE HBR HIB
  have HGE := hid (fun W => Neg_e X W hXl)
  have HGR : Hid (∀ (A : Option Addr) (c : Nat) (W : World), Sq W W.heap.size A c (ivs (dg X)) → Calls Try.prog 16 #[.slice none 0 0, .slice A (dg X).length c] W (BigR W ((pp - X) % pp))) := hid fun A c W h => by
    have h1 := Sub6_any 0 X none A 0 c W (by rw [dg_zero]; exact Sq.nil) h pp_pos hXl
    rw [dg_zero, Nat.zero_add] at h1
    exact h1
  have HIG := hid (fun A c W h => Is_any ((pp - X) % pp) A c W h (Nat.mod_lt _ pp_pos))
  obtain ⟨S3, hS3⟩ : ∃ S, S = (pp - X) % pp := ⟨_, rfl⟩
  rw [← hS3] at HGE HGR HIG
  have HME := hid (fun W => Mul_e X Y W hXl hYl); have HMR := hid (fun A A' c c' W h h' => Mul6_any X Y A A' c c' W h h' hXl hYl)
  have HIM := hid (fun A c W h => Is_any (X * Y % pp) A c W h (Nat.mod_lt _ pp_pos))
  obtain ⟨S4, hS4⟩ : ∃ S, S = X * Y % pp := ⟨_, rfl⟩
  rw [← hS4] at HME HMR HIM
  have HQE := hid (fun W => Square_e X W hXl); have HQR := hid (fun A A' c c' W h h' => Mul6_any X X A A' c c' W h h' hXl hXl)
  have HIQ := hid (fun A c W h => Is_any (X * X % pp) A c W h (Nat.mod_lt _ pp_pos))
  obtain ⟨S5, hS5⟩ : ∃ S, S = X * X % pp := ⟨_, rfl⟩
  rw [← hS5] at HQE HQR HIQ
  rw [HEX.out] at HIX HGE HQE HZE HOD
  rw [HEY.out] at HIY
  rw [HEX.out, HEY.out] at HAE HBE HME HSM
  clear hS1 hS2 hS3 hS4 hS5 hXl hYl hnp hn hsm hzr hod hr hV hV2
  go_enter Try.func3, Try.ntmps3
  go_wp2_with fail
  refine (HAL.out _).mono ?_
  rintro e w1 ⟨rfl, hb1⟩
  have HB1 := hid hb1; have HS1 := hid (HS.out.on6 hb1); have HS1' := hid (HS'.out.on6 hb1)
  clear hb1 HS HS' HAL
  go_wp2_with fail
  refine (HOX.out _ HS1.out).mono ?_
  rintro e w2 ⟨rfl, hb2⟩
  have HB2 := hid (HB1.out.trans (hb2.mono HB1.out.size)); have HS2 := hid (HS1.out.on6 hb2); have HS2' := hid (HS1'.out.on6 hb2)
  clear hb2 HS1 HS1' HB1 HOX
  go_wp2_with fail
  refine (HOY.out _ HS2'.out).mono ?_
  rintro e w3 ⟨rfl, hb3⟩
  have HB3 := hid (HB2.out.trans (hb3.mono HB2.out.size)); have HS3 := hid (HS2.out.on6 hb3); have HS3' := hid (HS2'.out.on6 hb3)
  clear hb3 HS2 HS2' HB2 HOY
  have hb34 : Below w3.heap.size w3 ((w3.alloc (.cells (e4 a b cc d) ET)).alloc (.cells (e4 a' b' cc' d') ET)) := ((Below.refl _ _).alloc (Nat.le_refl _) _).alloc (by simp) _
  have HX4 : Hid (((w3.alloc (.cells (e4 a b cc d) ET)).alloc (.cells (e4 a' b' cc' d') ET)).heap[w3.heap.size]? = some (.cells (eA X) ET (0, 0))) := hid (by rw [HEX.out]; exact blkA (blkN rfl _ ET) _)
  have HY4 : Hid (((w3.alloc (.cells (e4 a b cc d) ET)).alloc (.cells (e4 a' b' cc' d') ET)).heap[w3.heap.size + 1]? = some (.cells (eA Y) ET (0, 0))) := hid (by rw [HEY.out]; exact blkN (by simp) _ ET)
  have HB4 := hid (HB3.out.trans (hb34.mono HB3.out.size)); have HS4 := hid (HS3.out.on6 hb34); have HS4' := hid (HS3'.out.on6 hb34)
  have HG : Hid (w.heap.size ≤ w3.heap.size) := hid HB3.out.size
  clear hb34 HS3 HS3' HB3
  go_wp2_with fail
  refine (HFX.out _ HS4.out).mono ?_
  rintro e w5 ⟨Ap, cp, rfl, hSp, hb5⟩
  have HX5 := hid (block_below hb5 (block_lt HX4.out) HX4.out); have HY5 := hid (block_below hb5 (block_lt HY4.out) HY4.out)
  have HB5 := hid (HB4.out.trans (hb5.mono HB4.out.size)); have HS5' := hid (HS4'.out.on6 hb5); have HSp := hid hSp
  clear hSp hb5 HX4 HY4 HB4 HS4 HS4' HFX
  go_wp2_with fail
  refine (HFY.out _ HS5'.out).mono ?_
  rintro e w6 ⟨Aq, cq, rfl, hSq, hb6⟩
  obtain ⟨g, hg⟩ : ∃ g, g = w3.heap.size := ⟨_, rfl⟩
  rw [← hg] at HX5 HY5 HG ⊢
  have F6 : Hid (Tw w w6 g X Y Ap cp Aq cq) := hid ⟨block_below hb6 (block_lt HX5.out) HX5.out, block_below hb6 (block_lt HY5.out) HY5.out, HSp.out.on6 hb6, hSq, HB5.out.trans (hb6.mono HB5.out.size), HG.out⟩
  clear hSq hb6 hg HX5 HY5 HB5 HS5' HSp HFY HG
  obtain ⟨x0, x1, x2, x3⟩ := F6.out.x HEX.out
  obtain ⟨y0, y1, y2, y3⟩ := F6.out.y HEY.out
  go_wp2_with fail
  refine (HLW.out Ap cp _ F6.out.2.2.1).mono ?_
  rintro e wl ⟨rfl, rfl⟩
  clear x0 x1 x2 x3 y0 y1 y2 y3
  obtain ⟨x0, x1, x2, x3⟩ := F6.out.x HEX.out
  obtain ⟨y0, y1, y2, y3⟩ := F6.out.y HEY.out
  go_wp2_with fail
  refine (HIX.out Ap cp _ F6.out.2.2.1).mono ?_
  rintro e w7 ⟨rfl, hb⟩
  have F7 := hid (F6.out.call hb)
  clear hb F6 x0 x1 x2 x3 y0 y1 y2 y3
  obtain ⟨x0, x1, x2, x3⟩ := F7.out.x HEX.out
  obtain ⟨y0, y1, y2, y3⟩ := F7.out.y HEY.out
  go_wp2_with fail
  refine (HIY.out Aq cq _ F7.out.2.2.2.1).mono ?_
  rintro e w8 ⟨rfl, hb⟩
  have F8 := hid (F7.out.call hb)
  clear hb F7 x0 x1 x2 x3 y0 y1 y2 y3
  obtain ⟨x0, x1, x2, x3⟩ := F8.out.x HEX.out
  obtain ⟨y0, y1, y2, y3⟩ := F8.out.y HEY.out
  go_wp2_with fail
  refine (HNE.out _).mono ?_
  rintro e w9 ⟨rfl, hb⟩
  have F9 := hid (F8.out.call hb)
  clear hb F8 x0 x1 x2 x3 y0 y1 y2 y3
  obtain ⟨x0, x1, x2, x3⟩ := F9.out.x HEX.out
  obtain ⟨y0, y1, y2, y3⟩ := F9.out.y HEY.out
  go_wp2_with fail
  refine (HNR.out _).mono ?_
  rintro e w10 ⟨A20, cA20, rfl, hA20, hb⟩
  have F10 := hid (F9.out.call hb)
  have HA20 := hid hA20
  clear hb F9 x0 x1 x2 x3 y0 y1 y2 y3 hA20
  obtain ⟨x0, x1, x2, x3⟩ := F10.out.x HEX.out
  obtain ⟨y0, y1, y2, y3⟩ := F10.out.y HEY.out
  go_wp2_with fail
  refine (HIN.out A20 cA20 _ HA20.out).mono ?_
  rintro e w11 ⟨rfl, hb⟩
  have F11 := hid (F10.out.call hb)
  clear hb F10 x0 x1 x2 x3 y0 y1 y2 y3
  obtain ⟨x0, x1, x2, x3⟩ := F11.out.x HEX.out
  obtain ⟨y0, y1, y2, y3⟩ := F11.out.y HEY.out
  go_wp2_with fail
  refine (HAE.out _).mono ?_
  rintro e w12 ⟨rfl, hb⟩
  have F12 := hid (F11.out.call hb)
  clear hb F11 x0 x1 x2 x3 y0 y1 y2 y3
  obtain ⟨x0, x1, x2, x3⟩ := F12.out.x HEX.out
  obtain ⟨y0, y1, y2, y3⟩ := F12.out.y HEY.out
  go_wp2_with fail
  refine (HAR.out Ap Aq cp cq _ F12.out.2.2.1 F12.out.2.2.2.1).mono ?_
  rintro e w13 ⟨A21, cA21, rfl, hA21, hb⟩
  have F13 := hid (F12.out.call hb)
  have HA21 := hid hA21
  clear hb F12 x0 x1 x2 x3 y0 y1 y2 y3 hA21
  obtain ⟨x0, x1, x2, x3⟩ := F13.out.x HEX.out
  obtain ⟨y0, y1, y2, y3⟩ := F13.out.y HEY.out
  go_wp2_with fail
  refine (HIA.out A21 cA21 _ HA21.out).mono ?_
  rintro e w14 ⟨rfl, hb⟩
  have F14 := hid (F13.out.call hb)
  clear hb F13 x0 x1 x2 x3 y0 y1 y2 y3
  obtain ⟨x0, x1, x2, x3⟩ := F14.out.x HEX.out
  obtain ⟨y0, y1, y2, y3⟩ := F14.out.y HEY.out
  go_wp2_with fail
  refine (HBE.out _).mono ?_
  rintro e w15 ⟨rfl, hb⟩
  have F15 := hid (F14.out.call hb)
  clear hb F14 x0 x1 x2 x3 y0 y1 y2 y3
  obtain ⟨x0, x1, x2, x3⟩ := F15.out.x HEX.out
  obtain ⟨y0, y1, y2, y3⟩ := F15.out.y HEY.out
  go_wp2_with fail
  refine (HBR.out Ap Aq cp cq _ F15.out.2.2.1 F15.out.2.2.2.1).mono ?_
  rintro e w16 ⟨A22, cA22, rfl, hA22, hb⟩
  have F16 := hid (F15.out.call hb)
  have HA22 := hid hA22
  clear hb F15 x0 x1 x2 x3 y0 y1 y2 y3 hA22
  obtain ⟨x0, x1, x2, x3⟩ := F16.out.x HEX.out
  obtain ⟨y0, y1, y2, y3⟩ := F16.out.y HEY.out
  go_wp2_with fail
  refine (HIB.out A22 cA22 _ HA22.out).mono ?_
  rintro e w17 ⟨rfl, hb⟩
  have F17 := hid (F16.out.call hb)
  clear hb F16 x0 x1 x2 x3 y0 y1 y2 y3
  obtain ⟨x0, x1, x2, x3⟩ := F17.out.x HEX.out
  obtain ⟨y0, y1, y2, y3⟩ := F17.out.y HEY.out
  go_wp2_with fail
  refine (HGE.out _).mono ?_
  rintro e w18 ⟨rfl, hb⟩
  have F18 := hid (F17.out.call hb)
  clear hb F17 x0 x1 x2 x3 y0 y1 y2 y3
  obtain ⟨x0, x1, x2, x3⟩ := F18.out.x HEX.out
  obtain ⟨y0, y1, y2, y3⟩ := F18.out.y HEY.out
  go_wp2_with fail
  refine (HGR.out Ap cp _ F18.out.2.2.1).mono ?_
  rintro e w19 ⟨A23, cA23, rfl, hA23, hb⟩
  have F19 := hid (F18.out.call hb)
  have HA23 := hid hA23
  clear hb F18 x0 x1 x2 x3 y0 y1 y2 y3 hA23
  obtain ⟨x0, x1, x2, x3⟩ := F19.out.x HEX.out
  obtain ⟨y0, y1, y2, y3⟩ := F19.out.y HEY.out
  go_wp2_with fail
  refine (HIG.out A23 cA23 _ HA23.out).mono ?_
  rintro e w20 ⟨rfl, hb⟩
  have F20 := hid (F19.out.call hb)
  clear hb F19 x0 x1 x2 x3 y0 y1 y2 y3
  obtain ⟨x0, x1, x2, x3⟩ := F20.out.x HEX.out
  obtain ⟨y0, y1, y2, y3⟩ := F20.out.y HEY.out
  go_wp2_with fail
  refine (HME.out _).mono ?_
  rintro e w21 ⟨rfl, hb⟩
  have F21 := hid (F20.out.call hb)
  clear hb F20 x0 x1 x2 x3 y0 y1 y2 y3
  obtain ⟨x0, x1, x2, x3⟩ := F21.out.x HEX.out
  obtain ⟨y0, y1, y2, y3⟩ := F21.out.y HEY.out
  go_wp2_with fail
  refine (HMR.out Ap Aq cp cq _ F21.out.2.2.1 F21.out.2.2.2.1).mono ?_
  rintro e w22 ⟨A24, cA24, rfl, hA24, hb⟩
  have F22 := hid (F21.out.call hb)
  have HA24 := hid hA24
  clear hb F21 x0 x1 x2 x3 y0 y1 y2 y3 hA24
  obtain ⟨x0, x1, x2, x3⟩ := F22.out.x HEX.out
  obtain ⟨y0, y1, y2, y3⟩ := F22.out.y HEY.out
  go_wp2_with fail
  refine (HIM.out A24 cA24 _ HA24.out).mono ?_
  rintro e w23 ⟨rfl, hb⟩
  have F23 := hid (F22.out.call hb)
  clear hb F22 x0 x1 x2 x3 y0 y1 y2 y3
  obtain ⟨x0, x1, x2, x3⟩ := F23.out.x HEX.out
  obtain ⟨y0, y1, y2, y3⟩ := F23.out.y HEY.out
  go_wp2_with fail
  refine (HQE.out _).mono ?_
  rintro e w24 ⟨rfl, hb⟩
  have F24 := hid (F23.out.call hb)
  clear hb F23 x0 x1 x2 x3 y0 y1 y2 y3
  obtain ⟨x0, x1, x2, x3⟩ := F24.out.x HEX.out
  obtain ⟨y0, y1, y2, y3⟩ := F24.out.y HEY.out
  go_wp2_with fail
  refine (HQR.out Ap Ap cp cp _ F24.out.2.2.1 F24.out.2.2.1).mono ?_
  rintro e w25 ⟨A25, cA25, rfl, hA25, hb⟩
  have F25 := hid (F24.out.call hb)
  have HA25 := hid hA25
  clear hb F24 x0 x1 x2 x3 y0 y1 y2 y3 hA25
  obtain ⟨x0, x1, x2, x3⟩ := F25.out.x HEX.out
  obtain ⟨y0, y1, y2, y3⟩ := F25.out.y HEY.out
  go_wp2_with fail
  refine (HIQ.out A25 cA25 _ HA25.out).mono ?_
  rintro e w26 ⟨rfl, hb⟩
  have F26 := hid (F25.out.call hb)
  clear hb F25 x0 x1 x2 x3 y0 y1 y2 y3
  obtain ⟨x0, x1, x2, x3⟩ := F26.out.x HEX.out
  obtain ⟨y0, y1, y2, y3⟩ := F26.out.y HEY.out
  go_wp2_with fail
  refine (HSM.out _).mono ?_
  rintro e w27 ⟨rfl, hb⟩
  have F27 := hid (F26.out.call hb)
  clear hb F26 x0 x1 x2 x3 y0 y1 y2 y3
  obtain ⟨x0, x1, x2, x3⟩ := F27.out.x HEX.out
  obtain ⟨y0, y1, y2, y3⟩ := F27.out.y HEY.out
  go_wp2_with fail
  refine (HSR.out Ap Aq cp cq _ _ _ F27.out.2.2.1 F27.out.2.2.2.1).mono ?_
  rintro e w28 ⟨rfl, q28, rfl⟩
  have F28 := hid (F27.out.call (belowB_drewN (Below.refl _ w27) q28))
  clear F27 x0 x1 x2 x3 y0 y1 y2 y3
  obtain ⟨x0, x1, x2, x3⟩ := F28.out.x HEX.out
  obtain ⟨y0, y1, y2, y3⟩ := F28.out.y HEY.out
  go_wp2_with fail
  refine (HZE.out _).mono ?_
  rintro e w29 ⟨rfl, hb⟩
  have F29 := hid (F28.out.call hb)
  clear hb F28 x0 x1 x2 x3 y0 y1 y2 y3
  obtain ⟨x0, x1, x2, x3⟩ := F29.out.x HEX.out
  obtain ⟨y0, y1, y2, y3⟩ := F29.out.y HEY.out
  go_wp2_with fail
  refine (HOD.out _).mono ?_
  rintro e w30 ⟨rfl, hb⟩
  have F30 := hid (F29.out.call hb)
  clear hb F29 x0 x1 x2 x3 y0 y1 y2 y3
  go_wp2
  go_ret
  exact ⟨rfl, F30.out.2.2.2.2.1⟩
end Go.Proofs.Ytjchifaclfghaaa
