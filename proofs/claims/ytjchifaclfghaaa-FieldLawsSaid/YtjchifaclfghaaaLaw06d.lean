/-
  The statement FieldLaws: the walk.
-/
import Derived.Test.YtjchifaclfghaaaLaw06c
namespace Go.Proofs.Ytjchifaclfghaaa
open Go.RowKit
set_option linter.unusedVariables false
set_option linter.unusedSimpArgs false

/-- Three numbers in blocks, and a fourth. -/
def Lw (w wr : World) (g X Y Z V : Nat) : Prop :=
  wr.heap[g]? = some (.cells (eA X) ET (0, 0)) ∧ wr.heap[g + 1]? = some (.cells (eA Y) ET (0, 0)) ∧ wr.heap[g + 1 + 1]? = some (.cells (eA Z) ET (0, 0)) ∧ wr.heap[g + 1 + 1 + 1]? = some (.cells (eA V) ET (0, 0)) ∧ Below w.heap.size w wr ∧ w.heap.size ≤ g
theorem Lw.call {w wr w' : World} {g X Y Z V : Nat} (h : Lw w wr g X Y Z V) (hb : Below wr.heap.size wr w') : Lw w w' g X Y Z V := by
  obtain ⟨h0, h1, h2, h3, h4, h5⟩ := h
  exact ⟨block_below hb (block_lt h0) h0, block_below hb (block_lt h1) h1, block_below hb (block_lt h2) h2, block_below hb (block_lt h3) h3, h4.trans (hb.mono h4.size), h5⟩
theorem Lw.set {w wr : World} {g X Y Z V : Nat} (h : Lw w wr g X Y Z V) (n : Nat) : Lw w (wr.setRow (g + 1 + 1 + 1) (eA n)) g X Y Z n := by
  obtain ⟨h0, h1, h2, h3, h4, h5⟩ := h
  exact ⟨(setRow_other _ _ _ _ (by omega)).trans h0, (setRow_other _ _ _ _ (by omega)).trans h1, (setRow_other _ _ _ _ (by omega)).trans h2, setRow_heap _ _ _ _ _ _ h3, belowRow h4 (by omega) _, h5⟩
theorem Lw.far {w wr : World} {g X Y Z V : Nat} (h : Lw w wr g X Y Z V) (k n : Nat) (hk : g + 1 + 1 + 1 < k) : Lw w (wr.setRow k (eA n)) g X Y Z V := by
  obtain ⟨h0, h1, h2, h3, h4, h5⟩ := h
  exact ⟨(setRow_other _ _ _ _ (by omega)).trans h0, (setRow_other _ _ _ _ (by omega)).trans h1, (setRow_other _ _ _ _ (by omega)).trans h2, (setRow_other _ _ _ _ (by omega)).trans h3, belowRow h4 (by omega) _, h5⟩
theorem ofN_leB {X : Nat} (h : X < pp) : ofN (leB 32 X) = X := by
  have h1 : X < 57896044618658097711785492504343953926634992332820282019728792003956564819968 := by rw [pp_def] at h; omega
  have h2 : X < 256 ^ 32 := Nat.lt_trans h1 (by decide +kernel)
  unfold ofN
  rw [List.take_of_length_le (by rw [leB_length]; omega), leN_leB, Nat.mod_eq_of_lt h2, Nat.mod_eq_of_lt h1, Nat.mod_eq_of_lt h]
theorem ym : @Go.yielded.match_1 (fun _ => Option Bool) (some undef) (fun b => some b) (fun x => none) = none := rfl
theorem wp_cut {P : Program} {c : Code} {a : Act} {w : World} {Q : Exit → Act → World → Prop} (R : Act → Exit → Act → World → Prop) (h : ∀ e a' w', R a e a' w' → Q e a' w') (hc : c.wp P (R a) a w) : c.wp P Q a w :=
  Code.wp_mono h hc
theorem lift_calls {f : FuncId} {args : Array Value} {v : Value} (h : ∀ W, Calls Try.prog f args W fun e W' => e = .returned v ∧ Below W.heap.size W W') {w0 W : World} (hB : Below w0.heap.size w0 W) :
    Calls Try.prog f args W fun e W' => e = .returned v ∧ Below w0.heap.size w0 W' := (h W).mono fun e W' h => ⟨h.1, hB.trans (h.2.mono hB.size)⟩

set_option maxRecDepth 100000 in
set_option maxHeartbeats 8000000 in
theorem laws_any (A : Option Addr) (xs : List UInt8) (c : Nat) (A' : Option Addr) (ys : List UInt8) (c' : Nat) (A'' : Option Addr) (zs : List UInt8) (c'' : Nat) (t : Int) (w : World) (hS : Sq w w.heap.size A c (bvs xs)) (hS' : Sq w w.heap.size A' c' (bvs ys)) (hS'' : Sq w w.heap.size A'' c'' (bvs zs)) (ht0 : -9223372036854775808 ≤ t) (ht1 : t ≤ 9223372036854775807) :
    Calls Try.prog 5 #[.slice A xs.length c, .slice A' ys.length c', .slice A'' zs.length c'', .int .i64 t] w fun e w' => e = .returned (.bool true) ∧ Below w.heap.size w w' := by
  have HS := hid hS; have HS' := hid hS'; have HS'' := hid hS''
  have HAL := hid alive6_any
  clear hS hS' hS''
  by_cases hx : 60 < xs.length
  · have hxi : (60 : Int) < (xs.length : Int) := by omega
    clear hx ht0 ht1
    go_enter Try.func5, Try.ntmps5
    go_wp2_with fail
    refine (HAL.out _).mono ?_
    rintro e w1 ⟨rfl, hb1⟩
    go_wp2
    go_ret
    exact ⟨rfl, hb1⟩
  have hxi : ¬ (60 : Int) < (xs.length : Int) := by omega
  clear hx
  by_cases hy : 60 < ys.length
  · have hyi : (60 : Int) < (ys.length : Int) := by omega
    clear hy ht0 ht1
    go_enter Try.func5, Try.ntmps5
    go_wp2_with fail
    refine (HAL.out _).mono ?_
    rintro e w1 ⟨rfl, hb1⟩
    go_wp2
    go_ret
    exact ⟨rfl, hb1⟩
  have hyi : ¬ (60 : Int) < (ys.length : Int) := by omega
  clear hy
  by_cases hz : 60 < zs.length
  · have hzi : (60 : Int) < (zs.length : Int) := by omega
    clear hz ht0 ht1
    go_enter Try.func5, Try.ntmps5
    go_wp2_with fail
    refine (HAL.out _).mono ?_
    rintro e w1 ⟨rfl, hb1⟩
    go_wp2
    go_ret
    exact ⟨rfl, hb1⟩
  have hzi : ¬ (60 : Int) < (zs.length : Int) := by omega
  clear hz
  have HOX := hid (fun W h => Of_e A xs c W h); have HOY := hid (fun W h => Of_e A' ys c' W h); have HOZ := hid (fun W h => Of_e A'' zs c'' W h)
  obtain ⟨X, hX⟩ : ∃ X, X = ofN xs := ⟨_, rfl⟩
  have hXl : X < pp := by rw [hX]; exact ofN_lt xs
  rw [← hX] at HOX
  obtain ⟨xa, xb, xc, xd, hxa, hxb, hxc, hxd, hXv, eX⟩ := words X (pp_lt hXl)
  have HEX := hid eX
  rw [eX] at HOX
  clear hxa hxb hxc hxd hXv hX
  obtain ⟨Y, hY⟩ : ∃ Y, Y = ofN ys := ⟨_, rfl⟩
  have hYl : Y < pp := by rw [hY]; exact ofN_lt ys
  rw [← hY] at HOY
  obtain ⟨ya, yb, yc, yd, hya, hyb, hyc, hyd, hYv, eY⟩ := words Y (pp_lt hYl)
  have HEY := hid eY
  rw [eY] at HOY
  clear hya hyb hyc hyd hYv hY
  obtain ⟨Z, hZ⟩ : ∃ Z, Z = ofN zs := ⟨_, rfl⟩
  have hZl : Z < pp := by rw [hZ]; exact ofN_lt zs
  rw [← hZ] at HOZ
  obtain ⟨za, zb, zc, zd, hza, hzb, hzc, hzd, hZv, eZ⟩ := words Z (pp_lt hZl)
  have HEZ := hid eZ
  rw [eZ] at HOZ
  clear hza hzb hzc hzd hZv hZ
  have L : ∀ n, n % pp < pp := fun n => Nat.mod_lt _ pp_pos
  -- the round: sums that are taken back
  have R1 := hid (fun W => Add_e (X) (Y) W (hXl) (hYl))
  obtain ⟨v1, hv1⟩ : ∃ v, v = (X + Y) % pp := ⟨_, rfl⟩
  have hv1l : v1 < pp := by rw [hv1]; exact L _
  rw [← hv1] at R1
  have R2 := hid (fun W => Sub_e (v1) (Z) W (hv1l) (hZl))
  obtain ⟨v2, hv2⟩ : ∃ v, v = (v1 + (pp - Z)) % pp := ⟨_, rfl⟩
  have hv2l : v2 < pp := by rw [hv2]; exact L _
  rw [← hv2] at R2
  have R3 := hid (fun W => Add_e (v2) (Z) W (hv2l) (hZl))
  obtain ⟨v3, hv3⟩ : ∃ v, v = (v2 + Z) % pp := ⟨_, rfl⟩
  have hv3l : v3 < pp := by rw [hv3]; exact L _
  rw [← hv3] at R3
  have R4 := hid (fun W => Sub_e (v3) (Y) W (hv3l) (hYl))
  obtain ⟨v4, hv4⟩ : ∃ v, v = (v3 + (pp - Y)) % pp := ⟨_, rfl⟩
  have hv4l : v4 < pp := by rw [hv4]; exact L _
  rw [← hv4] at R4
  have hV4 : v4 = X := by rw [hv4, hv3, hv2, hv1]; exact back_sum hXl hYl hZl
  have HV4 := hid hV4
  -- what is asked of sums and products
  have K1 := hid (fun W => Same_e X X W hXl hXl)
  rw [decide_eq_true rfl] at K1
  have K2 := hid (fun W => Add_e (Y) (Z) W (hYl) (hZl))
  obtain ⟨s1, hs1⟩ : ∃ v, v = (Y + Z) % pp := ⟨_, rfl⟩
  have hs1l : s1 < pp := by rw [hs1]; exact L _
  rw [← hs1] at K2
  have K3 := hid (fun W => Mul_e (X) (s1) W (hXl) (hs1l))
  obtain ⟨l1, hl1⟩ : ∃ v, v = X * s1 % pp := ⟨_, rfl⟩
  have hl1l : l1 < pp := by rw [hl1]; exact L _
  rw [← hl1] at K3
  have K4 := hid (fun W => Mul_e (X) (Y) W (hXl) (hYl))
  obtain ⟨p1, hp1⟩ : ∃ v, v = X * Y % pp := ⟨_, rfl⟩
  have hp1l : p1 < pp := by rw [hp1]; exact L _
  rw [← hp1] at K4
  have K5 := hid (fun W => Mul_e (X) (Z) W (hXl) (hZl))
  obtain ⟨p2, hp2⟩ : ∃ v, v = X * Z % pp := ⟨_, rfl⟩
  have hp2l : p2 < pp := by rw [hp2]; exact L _
  rw [← hp2] at K5
  have K6 := hid (fun W => Add_e (p1) (p2) W (hp1l) (hp2l))
  obtain ⟨l2, hl2⟩ : ∃ v, v = (p1 + p2) % pp := ⟨_, rfl⟩
  have hl2l : l2 < pp := by rw [hl2]; exact L _
  rw [← hl2] at K6
  have hll : l1 = l2 := by rw [hl1, hs1, hl2, hp1, hp2]; exact dist_sum X Y Z
  have K7 := hid (fun W => Same_e l1 l2 W hl1l hl2l)
  rw [decide_eq_true hll] at K7
  have K8 := hid (fun W => Mul_e (p1) (Z) W (hp1l) (hZl))
  obtain ⟨a1, ha1⟩ : ∃ v, v = p1 * Z % pp := ⟨_, rfl⟩
  have ha1l : a1 < pp := by rw [ha1]; exact L _
  rw [← ha1] at K8
  have K9 := hid (fun W => Mul_e (Y) (Z) W (hYl) (hZl))
  obtain ⟨p3, hp3⟩ : ∃ v, v = Y * Z % pp := ⟨_, rfl⟩
  have hp3l : p3 < pp := by rw [hp3]; exact L _
  rw [← hp3] at K9
  have K10 := hid (fun W => Mul_e (X) (p3) W (hXl) (hp3l))
  obtain ⟨a2, ha2⟩ : ∃ v, v = X * p3 % pp := ⟨_, rfl⟩
  have ha2l : a2 < pp := by rw [ha2]; exact L _
  rw [← ha2] at K10
  have haa : a1 = a2 := by rw [ha1, hp1, ha2, hp3]; exact assoc_mul X Y Z
  have K11 := hid (fun W => Same_e a1 a2 W ha1l ha2l)
  rw [decide_eq_true haa] at K11
  have K12 := hid (fun W => Mul_e (Y) (X) W (hYl) (hXl))
  obtain ⟨p4, hp4⟩ : ∃ v, v = Y * X % pp := ⟨_, rfl⟩
  have hp4l : p4 < pp := by rw [hp4]; exact L _
  rw [← hp4] at K12
  have hpp4 : p1 = p4 := by rw [hp1, hp4, Nat.mul_comm]
  have K13 := hid (fun W => Same_e p1 p4 W hp1l hp4l)
  rw [decide_eq_true hpp4] at K13
  have K14 := hid (fun W => Add_e (Y) (X) W (hYl) (hXl))
  obtain ⟨s2, hs2⟩ : ∃ v, v = (Y + X) % pp := ⟨_, rfl⟩
  have hs2l : s2 < pp := by rw [hs2]; exact L _
  rw [← hs2] at K14
  have hss : v1 = s2 := by rw [hv1, hs2, Nat.add_comm]
  have K15 := hid (fun W => Same_e v1 s2 W hv1l hs2l)
  rw [decide_eq_true hss] at K15
  -- what is asked of one number
  have M1 := hid (fun W => Sub_e (X) (X) W (hXl) (hXl))
  obtain ⟨n0, hn0⟩ : ∃ v, v = (X + (pp - X)) % pp := ⟨_, rfl⟩
  have hn0l : n0 < pp := by rw [hn0]; exact L _
  rw [← hn0] at M1
  have hn00 : n0 = 0 := by rw [hn0]; exact sub_self' hXl
  have M2 := hid (fun W => Zero_e n0 W hn0l)
  rw [decide_eq_true hn00] at M2
  have M3 := hid (fun W => Neg_e X W hXl)
  obtain ⟨nn, hnn⟩ : ∃ v, v = (pp - X) % pp := ⟨_, rfl⟩
  have hnnl : nn < pp := by rw [hnn]; exact L _
  rw [← hnn] at M3
  have M4 := hid (fun W => Add_e (X) (nn) W (hXl) (hnnl))
  obtain ⟨n1, hn1⟩ : ∃ v, v = (X + nn) % pp := ⟨_, rfl⟩
  have hn1l : n1 < pp := by rw [hn1]; exact L _
  rw [← hn1] at M4
  have hn10 : n1 = 0 := by rw [hn1, hnn]; exact neg_sum hXl
  have M5 := hid (fun W => Zero_e n1 W hn1l)
  rw [decide_eq_true hn10] at M5
  have M6 : Hid (∀ W : World, Calls Try.prog 11 #[.int .u64 1] W fun e w' => e = .returned (.agg (eA 1)) ∧ Below W.heap.size W w') := hid fun W => Num_e 1 W (by omega)
  obtain ⟨o1, ho1⟩ : ∃ v, v = 1 := ⟨_, rfl⟩
  have ho1l : o1 < pp := by rw [ho1]; have := pp_two; omega
  rw [← ho1] at M6
  have M7 := hid (fun W => Mul_e (X) (o1) W (hXl) (ho1l))
  obtain ⟨m1, hm1⟩ : ∃ v, v = X * o1 % pp := ⟨_, rfl⟩
  have hm1l : m1 < pp := by rw [hm1]; exact L _
  rw [← hm1] at M7
  have hm1X : m1 = X := by rw [hm1, ho1, Nat.mul_one]; exact Nat.mod_eq_of_lt hXl
  have M8 := hid (fun W => Same_e m1 X W hm1l hXl)
  rw [decide_eq_true hm1X] at M8
  have M9 := hid (fun W => Mul_e (X) (0) W (hXl) (pp_pos))
  obtain ⟨m0, hm0⟩ : ∃ v, v = X * 0 % pp := ⟨_, rfl⟩
  have hm0l : m0 < pp := by rw [hm0]; exact L _
  rw [← hm0] at M9
  have hm00 : m0 = 0 := by rw [hm0, Nat.mul_zero]; exact Nat.zero_mod _
  have M10 := hid (fun W => Zero_e m0 W hm0l)
  rw [decide_eq_true hm00] at M10
  have hz4 : eA 0 = e4 0 0 0 0 := eA_small 0 (by omega)
  rw [hz4] at M9
  have M9z : Hid (∀ W : World, Calls Try.prog 18 #[.agg (eA X), .agg z4] W fun e w' => e = .returned (.agg (eA m0)) ∧ Below W.heap.size W w') := M9
  have M11 := hid (fun W => Inv_e X W hXl)
  obtain ⟨iv, hiv⟩ : ∃ v, v = X ^ (pp - 2) % pp := ⟨_, rfl⟩
  have hivl : iv < pp := by rw [hiv]; exact L _
  rw [← hiv] at M11
  have M12 := hid (fun W => Mul_e (X) (iv) W (hXl) (hivl))
  obtain ⟨on, hon⟩ : ∃ v, v = X * iv % pp := ⟨_, rfl⟩
  have honl : on < pp := by rw [hon]; exact L _
  rw [← hon] at M12
  have hone : X ≠ 0 → on = 1 := fun h => by rw [hon, hiv]; exact inv_one hXl h
  have hone0 : X = 0 → on = 0 := fun h => by rw [hon, h, Nat.zero_mul]; exact Nat.zero_mod _
  obtain ⟨oa, ob, oc, od, hoa, hob, hoc, hod, honv, eon⟩ := words on (pp_lt honl)
  have HEON := hid eon
  have M13 := hid (fun W => Square_e X W hXl)
  have hrsq := rt_of_sq hXl
  obtain ⟨sq, hsq⟩ : ∃ v, v = X * X % pp := ⟨_, rfl⟩
  have hsql : sq < pp := by rw [hsq]; exact L _
  rw [← hsq] at M13 hrsq
  have M14 := hid (fun W => Root_e sq W hsql)
  rw [decide_eq_true hrsq.1] at M14
  have hrn : rootN sq = rt3 sq := by unfold rootN; rw [if_pos hrsq.1]
  rw [hrn] at M14
  obtain ⟨rt, hrt⟩ : ∃ v, v = rt3 sq := ⟨_, rfl⟩
  have hrtl : rt < pp := by rw [hrt]; exact rt3_lt sq
  have hrts := hrsq.2
  rw [← hrt] at M14 hrts
  obtain ⟨ra, rb, rc, rd, hra, hrb, hrc, hrd, hrv, ert⟩ := words rt (pp_lt hrtl)
  have HERT := hid ert
  rw [ert] at M14
  have N1 := hid (fun W => Zero_e X W hXl)
  have N2 := hid (fun W => Zero_e on W honl)
  have N3 := hid (fun W => Same_e on o1 W honl ho1l)
  have N4 := hid (fun W => Same_e rt X W hrtl hXl)
  have N5 := hid (fun W => Same_e rt nn W hrtl hnnl)
  have N6 : Hid (∀ W : World, Calls Try.prog 33 #[.agg (eA X)] W fun e w' => ∃ A c, e = .returned (.slice A 32 c) ∧ Sq w' w'.heap.size A c (bvs (leB 32 X)) ∧ Below W.heap.size W w') := hid fun W =>
    (Bytes_e X W (pp_lt hXl)).mono fun e w' h => by
      obtain ⟨v, rfl, ho, hb⟩ := h
      obtain ⟨A, c, rfl, hs⟩ := own_sl ho
      exact ⟨A, c, by rw [leB_length], hs.sq, hb⟩
  obtain ⟨bx, hbx⟩ : ∃ v, v = ofN (leB 32 X) := ⟨_, rfl⟩
  have hbxX : bx = X := by rw [hbx]; exact ofN_leB hXl
  have hbxl : bx < pp := by rw [hbxX]; exact hXl
  have N7 : Hid (∀ (W : World) A c, Sq W W.heap.size A c (bvs (leB 32 X)) → Calls Try.prog 7 #[.slice A 32 c] W fun e w' => e = .returned (.agg (eA bx)) ∧ Below W.heap.size W w') := hid fun W A c h => by
    have h1 := Of_e A (leB 32 X) c W h
    rw [leB_length, ← hbx] at h1
    exact h1
  have N8 := hid (fun W => Same_e bx X W hbxl hXl)
  rw [decide_eq_true hbxX] at N8
  rw [HEX.out] at M1 M3 M4 M7 M8 M9z M11 M12 M13 N1 N4 N6 N8
  rw [HEON.out] at N2 N3
  rw [HERT.out] at N4 N5
  have HRT : Hid (rt = X ∨ rt = nn) := hid (by rw [hnn]; exact hrts)
  have HO1 := hid hone; have HO0 := hid hone0; have HO11 := hid ho1; have HNN := hid hnn
  clear M9 hn0 hn0l hn00 hnn hnnl hn1 hn1l hn10 ho1 ho1l hm1 hm1l hm1X hm0 hm0l hm00 hz4 hiv hivl hon honl hone hone0 hoa hob hoc hod honv eon hrsq hsq hsql hrn hrt hrtl hrts hra hrb hrc hrd hrv ert hbx hbxX hbxl
  rw [HEX.out, HEY.out] at R1 K4
  rw [HEZ.out] at R2 R3 K8
  rw [HEY.out] at R4
  rw [HEX.out] at K1 K3 K10
  rw [HEY.out, HEZ.out] at K2 K9
  rw [HEX.out, HEZ.out] at K5
  rw [HEY.out, HEX.out] at K12 K14
  clear eX eY eZ L hXl hYl hZl hv1 hv1l hv2 hv2l hv3 hv3l hv4 hv4l hs1 hs1l hl1 hl1l hp1 hp1l hp2 hp2l hl2 hl2l ha1 ha1l hp3 hp3l ha2 ha2l hp4 hp4l hs2 hs2l hV4 hll haa hpp4 hss
  go_enter Try.func5, Try.ntmps5
  go_wp2_with fail
  refine (HAL.out _).mono ?_
  rintro e w1 ⟨rfl, hb1⟩
  have HB1 := hid hb1; have HS1 := hid (HS.out.on6 hb1); have HS1' := hid (HS'.out.on6 hb1); have HS1'' := hid (HS''.out.on6 hb1)
  clear hb1 HS HS' HS'' HAL
  go_wp2_with fail
  refine (HOX.out _ HS1.out).mono ?_
  rintro e w2 ⟨rfl, hb2⟩
  have HB2 := hid (HB1.out.trans (hb2.mono HB1.out.size)); have HS2' := hid (HS1'.out.on6 hb2); have HS2'' := hid (HS1''.out.on6 hb2)
  clear hb2 HS1 HS1' HS1'' HB1 HOX
  go_wp2_with fail
  refine (HOY.out _ HS2'.out).mono ?_
  rintro e w3 ⟨rfl, hb3⟩
  have HB3 := hid (HB2.out.trans (hb3.mono HB2.out.size)); have HS3'' := hid (HS2''.out.on6 hb3)
  clear hb3 HS2' HS2'' HB2 HOY
  go_wp2_with fail
  refine (HOZ.out _ HS3''.out).mono ?_
  rintro e w4 ⟨rfl, hb4⟩
  have HB4 := hid (HB3.out.trans (hb4.mono HB3.out.size))
  clear hb4 HS3'' HB3 HOZ
  have HF : Hid (Lw w ((((w4.alloc (.cells (e4 xa xb xc xd) ET)).alloc (.cells (e4 ya yb yc yd) ET)).alloc (.cells (e4 za zb zc zd) ET)).alloc (.cells (e4 xa xb xc xd) ET)) w4.heap.size X Y Z X) :=
    hid ⟨by rw [HEX.out]; exact blkA (blkA (blkA (blkN rfl _ ET) _) _) _, by rw [HEY.out]; exact blkA (blkA (blkN (by simp) _ ET) _) _, by rw [HEZ.out]; exact blkA (blkN (by simp) _ ET) _, by rw [HEX.out]; exact blkN (by simp) _ ET,
      HB4.out.trans (((((Below.refl w4.heap.size w4).alloc (Nat.le_refl _) _).alloc (by simp) _).alloc (by simp; omega) _).alloc (by simp; omega) _ |>.mono HB4.out.size), HB4.out.size⟩
  go_wp2
  generalize hw5 : ((((w4.alloc (.cells (e4 xa xb xc xd) ET)).alloc (.cells (e4 ya yb yc yd) ET)).alloc (.cells (e4 za zb zc zd) ET)).alloc (.cells (e4 xa xb xc xd) ET)) = w5 at HF ⊢
  clear hw5 HB4
  generalize w4.heap.size = g at HF ⊢
  refine wp_cut (fun a0 e a' w' => e = .exit 0 ∧ ∃ (u13 u39 u40 u41 u42 u43 u44 u45 u46 u47 u48 u49 u50 u51 u52 u53 u54 u55 u56 : Value), a' = ((((((((((((((((((a0.put (some 13) u13).put (some 39) u39).put (some 40) u40).put (some 41) u41).put (some 42) u42).put (some 43) u43).put (some 44) u44).put (some 45) u45).put (some 46) u46).put (some 47) u47).put (some 48) u48).put (some 49) u49).put (some 50) u50).put (some 51) u51).put (some 52) u52).put (some 53) u53).put (some 54) u54).put (some 55) u55).put (some 56) u56 ∧ Lw w w' g X Y Z X) ?rest ?_
  case rest =>
    rintro e a' wr ⟨rfl, u13, u39, u40, u41, u42, u43, u44, u45, u46, u47, u48, u49, u50, u51, u52, u53, u54, u55, u56, rfl, hF⟩
    have HF := hid hF
    clear hF
    simp only [Act.put, List.setIfInBounds_toArray, List.set_cons_zero, List.set_cons_succ]
    have hB0 : Below wr.heap.size wr wr.drew := (Below.refl _ _).drew
    have SC : Hid (∀ W, Below wr.heap.size wr W → (W.cell? ⟨g, 0, none⟩ = some (.int .u64 (xa : Int)) ∧ W.cell? ⟨g, 1, none⟩ = some (.int .u64 (xb : Int)) ∧ W.cell? ⟨g, 2, none⟩ = some (.int .u64 (xc : Int)) ∧ W.cell? ⟨g, 3, none⟩ = some (.int .u64 (xd : Int))) ∧ (W.cell? ⟨g + 1, 0, none⟩ = some (.int .u64 (ya : Int)) ∧ W.cell? ⟨g + 1, 1, none⟩ = some (.int .u64 (yb : Int)) ∧ W.cell? ⟨g + 1, 2, none⟩ = some (.int .u64 (yc : Int)) ∧ W.cell? ⟨g + 1, 3, none⟩ = some (.int .u64 (yd : Int))) ∧ (W.cell? ⟨g + 1 + 1, 0, none⟩ = some (.int .u64 (za : Int)) ∧ W.cell? ⟨g + 1 + 1, 1, none⟩ = some (.int .u64 (zb : Int)) ∧ W.cell? ⟨g + 1 + 1, 2, none⟩ = some (.int .u64 (zc : Int)) ∧ W.cell? ⟨g + 1 + 1, 3, none⟩ = some (.int .u64 (zd : Int))) ∧ (W.cell? ⟨g + 1 + 1 + 1, 0, none⟩ = some (.int .u64 (xa : Int)) ∧ W.cell? ⟨g + 1 + 1 + 1, 1, none⟩ = some (.int .u64 (xb : Int)) ∧ W.cell? ⟨g + 1 + 1 + 1, 2, none⟩ = some (.int .u64 (xc : Int)) ∧ W.cell? ⟨g + 1 + 1 + 1, 3, none⟩ = some (.int .u64 (xd : Int))) ∧ Lw w W g X Y Z X) := hid fun W hW =>
      have h := HF.out.call hW
      ⟨row_words h.1 HEX.out, row_words h.2.1 HEY.out, row_words h.2.2.1 HEZ.out, row_words h.2.2.2.1 HEX.out, h⟩
    go_wp2_with fail
    go_region_held3 (fun W => (W.cell? ⟨g, 0, none⟩ = some (.int .u64 (xa : Int)) ∧ W.cell? ⟨g, 1, none⟩ = some (.int .u64 (xb : Int)) ∧ W.cell? ⟨g, 2, none⟩ = some (.int .u64 (xc : Int)) ∧ W.cell? ⟨g, 3, none⟩ = some (.int .u64 (xd : Int))) ∧ (W.cell? ⟨g + 1, 0, none⟩ = some (.int .u64 (ya : Int)) ∧ W.cell? ⟨g + 1, 1, none⟩ = some (.int .u64 (yb : Int)) ∧ W.cell? ⟨g + 1, 2, none⟩ = some (.int .u64 (yc : Int)) ∧ W.cell? ⟨g + 1, 3, none⟩ = some (.int .u64 (yd : Int))) ∧ (W.cell? ⟨g + 1 + 1, 0, none⟩ = some (.int .u64 (za : Int)) ∧ W.cell? ⟨g + 1 + 1, 1, none⟩ = some (.int .u64 (zb : Int)) ∧ W.cell? ⟨g + 1 + 1, 2, none⟩ = some (.int .u64 (zc : Int)) ∧ W.cell? ⟨g + 1 + 1, 3, none⟩ = some (.int .u64 (zd : Int))) ∧ (W.cell? ⟨g + 1 + 1 + 1, 0, none⟩ = some (.int .u64 (xa : Int)) ∧ W.cell? ⟨g + 1 + 1 + 1, 1, none⟩ = some (.int .u64 (xb : Int)) ∧ W.cell? ⟨g + 1 + 1 + 1, 2, none⟩ = some (.int .u64 (xc : Int)) ∧ W.cell? ⟨g + 1 + 1 + 1, 3, none⟩ = some (.int .u64 (xd : Int))) ∧ Lw w W g X Y Z X)
      (first
        | exact SC.out _ (by assumption))
      (first
          | (go_at_call 13; (with_reducible refine Calls.mono (lift_calls R1.out (w0 := wr) (by assumption)) ?_); rintro e wz ⟨rfl, hBz⟩)
          | (go_at_call 13; (with_reducible refine Calls.mono (lift_calls K2.out (w0 := wr) (by assumption)) ?_); rintro e wz ⟨rfl, hBz⟩)
          | (go_at_call 13; (with_reducible refine Calls.mono (lift_calls K6.out (w0 := wr) (by assumption)) ?_); rintro e wz ⟨rfl, hBz⟩)
          | (go_at_call 13; (with_reducible refine Calls.mono (lift_calls K14.out (w0 := wr) (by assumption)) ?_); rintro e wz ⟨rfl, hBz⟩)
          | (go_at_call 18; (with_reducible refine Calls.mono (lift_calls K3.out (w0 := wr) (by assumption)) ?_); rintro e wz ⟨rfl, hBz⟩)
          | (go_at_call 18; (with_reducible refine Calls.mono (lift_calls K4.out (w0 := wr) (by assumption)) ?_); rintro e wz ⟨rfl, hBz⟩)
          | (go_at_call 18; (with_reducible refine Calls.mono (lift_calls K5.out (w0 := wr) (by assumption)) ?_); rintro e wz ⟨rfl, hBz⟩)
          | (go_at_call 18; (with_reducible refine Calls.mono (lift_calls K8.out (w0 := wr) (by assumption)) ?_); rintro e wz ⟨rfl, hBz⟩)
          | (go_at_call 18; (with_reducible refine Calls.mono (lift_calls K9.out (w0 := wr) (by assumption)) ?_); rintro e wz ⟨rfl, hBz⟩)
          | (go_at_call 18; (with_reducible refine Calls.mono (lift_calls K10.out (w0 := wr) (by assumption)) ?_); rintro e wz ⟨rfl, hBz⟩)
          | (go_at_call 18; (with_reducible refine Calls.mono (lift_calls K12.out (w0 := wr) (by assumption)) ?_); rintro e wz ⟨rfl, hBz⟩)
          | (go_at_call 21; (with_reducible refine Calls.mono (lift_calls K1.out (w0 := wr) (by assumption)) ?_); rintro e wz ⟨rfl, hBz⟩)
          | (go_at_call 21; (with_reducible refine Calls.mono (lift_calls K7.out (w0 := wr) (by assumption)) ?_); rintro e wz ⟨rfl, hBz⟩)
          | (go_at_call 21; (with_reducible refine Calls.mono (lift_calls K11.out (w0 := wr) (by assumption)) ?_); rintro e wz ⟨rfl, hBz⟩)
          | (go_at_call 21; (with_reducible refine Calls.mono (lift_calls K13.out (w0 := wr) (by assumption)) ?_); rintro e wz ⟨rfl, hBz⟩)
          | (go_at_call 21; (with_reducible refine Calls.mono (lift_calls K15.out (w0 := wr) (by assumption)) ?_); rintro e wz ⟨rfl, hBz⟩))
    have F13 := hid (HF.out.call hBz)
    clear hBz SC hB0 HF
    have hB0 : Below wz.heap.size wz wz.drew := (Below.refl _ _).drew
    have SC : Hid (∀ W, Below wz.heap.size wz W → (W.cell? ⟨g, 0, none⟩ = some (.int .u64 (xa : Int)) ∧ W.cell? ⟨g, 1, none⟩ = some (.int .u64 (xb : Int)) ∧ W.cell? ⟨g, 2, none⟩ = some (.int .u64 (xc : Int)) ∧ W.cell? ⟨g, 3, none⟩ = some (.int .u64 (xd : Int))) ∧ Lw w W g X Y Z X) := hid fun W hW =>
      have h := F13.out.call hW
      ⟨row_words h.1 HEX.out, h⟩
    go_wp2_with fail
    go_region_held3 (fun W => (W.cell? ⟨g, 0, none⟩ = some (.int .u64 (xa : Int)) ∧ W.cell? ⟨g, 1, none⟩ = some (.int .u64 (xb : Int)) ∧ W.cell? ⟨g, 2, none⟩ = some (.int .u64 (xc : Int)) ∧ W.cell? ⟨g, 3, none⟩ = some (.int .u64 (xd : Int))) ∧ Lw w W g X Y Z X)
      (first
        | exact SC.out _ (by assumption))
      (first
          | (go_at_call 15; (with_reducible refine Calls.mono (lift_calls M1.out (w0 := wz) (by assumption)) ?_); rintro e wy ⟨rfl, hBy⟩)
          | (go_at_call 23; (with_reducible refine Calls.mono (lift_calls M2.out (w0 := wz) (by assumption)) ?_); rintro e wy ⟨rfl, hBy⟩)
          | (go_at_call 23; (with_reducible refine Calls.mono (lift_calls M5.out (w0 := wz) (by assumption)) ?_); rintro e wy ⟨rfl, hBy⟩)
          | (go_at_call 23; (with_reducible refine Calls.mono (lift_calls M10.out (w0 := wz) (by assumption)) ?_); rintro e wy ⟨rfl, hBy⟩)
          | (go_at_call 17; (with_reducible refine Calls.mono (lift_calls M3.out (w0 := wz) (by assumption)) ?_); rintro e wy ⟨rfl, hBy⟩)
          | (go_at_call 13; (with_reducible refine Calls.mono (lift_calls M4.out (w0 := wz) (by assumption)) ?_); rintro e wy ⟨rfl, hBy⟩)
          | (go_at_call 18; (with_reducible refine Calls.mono (lift_calls M7.out (w0 := wz) (by assumption)) ?_); rintro e wy ⟨rfl, hBy⟩)
          | (go_at_call 18; (with_reducible refine Calls.mono (lift_calls M9z.out (w0 := wz) (by assumption)) ?_); rintro e wy ⟨rfl, hBy⟩)
          | (go_at_call 21; (with_reducible refine Calls.mono (lift_calls M8.out (w0 := wz) (by assumption)) ?_); rintro e wy ⟨rfl, hBy⟩)
          | (go_at_call 11; (with_reducible refine Calls.mono (lift_calls M6.out (w0 := wz) (by assumption)) ?_); rintro e wy ⟨rfl, hBy⟩))
    have F15 := hid (F13.out.call hBy)
    clear hBy SC hB0 F13
    go_wp2_with fail
    refine wp_cut (fun a0 e a' w' => e = .normal ∧ ∃ h, a' = ((((a0.put (some 139) (.agg (e4 xa xb xc xd))).put (some 140) (.agg (e4 xa xb xc xd))).put (some 141) (.agg (eA iv))).put (some 142) (.agg (eA on))).put (some 14) (.pointer (some ⟨h, 0, none⟩)) ∧ w'.heap[h]? = some (.cells (eA on) ET (0, 0)) ∧ Lw w w' g X Y Z X) ?rest ?_
    case rest =>
      rintro e a' w16 ⟨rfl, h, rfl, hOn, hF⟩
      have F16 := hid hF; have G16 := hid hOn
      clear hOn hF
      obtain ⟨x0, x1, x2, x3⟩ := row_words F16.out.1 HEX.out
      go_wp2_with fail
      refine (M13.out _).mono ?_
      rintro e w17 ⟨rfl, hb⟩
      have F17 := hid (F16.out.call hb); have G17 := hid (block_below hb (block_lt G16.out) G16.out)
      clear hb F16 G16 x0 x1 x2 x3
      go_wp2_with fail
      refine (M14.out _).mono ?_
      rintro e w18 ⟨rfl, hb⟩
      have hba : Below w18.heap.size w18 (w18.alloc (.cells (e4 ra rb rc rd) ET)) := (Below.refl _ _).alloc (Nat.le_refl _) _
      have F18 := hid ((F17.out.call hb).call hba); have G18 := hid (block_below hba (block_lt (block_below hb (block_lt G17.out) G17.out)) (block_below hb (block_lt G17.out) G17.out))
      have H18 : Hid ((w18.alloc (.cells (e4 ra rb rc rd) ET)).heap[w18.heap.size]? = some (.cells (eA rt) ET (0, 0))) := hid (by rw [HERT.out]; exact blkN rfl _ ET)
      clear hb hba F17 G17
      go_wp2_with fail
      generalize hws : w18.alloc (.cells (e4 ra rb rc rd) ET) = ws at F18 G18 H18 ⊢
      clear hws
      generalize w18.heap.size = kk at H18 ⊢
      have hB0 : Below ws.heap.size ws ws.drew := (Below.refl _ _).drew
      have SC : Hid (∀ W, Below ws.heap.size ws W → (W.cell? ⟨g, 0, none⟩ = some (.int .u64 (xa : Int)) ∧ W.cell? ⟨g, 1, none⟩ = some (.int .u64 (xb : Int)) ∧ W.cell? ⟨g, 2, none⟩ = some (.int .u64 (xc : Int)) ∧ W.cell? ⟨g, 3, none⟩ = some (.int .u64 (xd : Int))) ∧ (W.cell? ⟨h, 0, none⟩ = some (.int .u64 (oa : Int)) ∧ W.cell? ⟨h, 1, none⟩ = some (.int .u64 (ob : Int)) ∧ W.cell? ⟨h, 2, none⟩ = some (.int .u64 (oc : Int)) ∧ W.cell? ⟨h, 3, none⟩ = some (.int .u64 (od : Int))) ∧ (W.cell? ⟨kk, 0, none⟩ = some (.int .u64 (ra : Int)) ∧ W.cell? ⟨kk, 1, none⟩ = some (.int .u64 (rb : Int)) ∧ W.cell? ⟨kk, 2, none⟩ = some (.int .u64 (rc : Int)) ∧ W.cell? ⟨kk, 3, none⟩ = some (.int .u64 (rd : Int))) ∧ Lw w W g X Y Z X) := hid fun W hW =>
        have h0 := F18.out.call hW
        ⟨row_words h0.1 HEX.out, row_words (block_below hW (block_lt G18.out) G18.out) HEON.out, row_words (block_below hW (block_lt H18.out) H18.out) HERT.out, h0⟩
      have FB := hid F18.out.2.2.2.2.1
      clear F18 G18 H18
      by_cases hx0 : X = 0
      · have hon0 := HO0.out hx0
        have hrx : rt = X := by
          rcases HRT.out with h | h
          · exact h
          · rw [h, HNN.out, hx0, Nat.sub_zero, Nat.mod_self]
        rw [decide_eq_true hx0] at N1
        rw [decide_eq_true hon0] at N2
        clear hx0 hon0 HO0 HO1 HO11 N3
        have hym := ym
        rw [decide_eq_true hrx] at N4
        clear hrx HRT N5
        refine wp_region_held_drew (S := fun W => (W.cell? ⟨g, 0, none⟩ = some (.int .u64 (xa : Int)) ∧ W.cell? ⟨g, 1, none⟩ = some (.int .u64 (xb : Int)) ∧ W.cell? ⟨g, 2, none⟩ = some (.int .u64 (xc : Int)) ∧ W.cell? ⟨g, 3, none⟩ = some (.int .u64 (xd : Int))) ∧ (W.cell? ⟨h, 0, none⟩ = some (.int .u64 (oa : Int)) ∧ W.cell? ⟨h, 1, none⟩ = some (.int .u64 (ob : Int)) ∧ W.cell? ⟨h, 2, none⟩ = some (.int .u64 (oc : Int)) ∧ W.cell? ⟨h, 3, none⟩ = some (.int .u64 (od : Int))) ∧ (W.cell? ⟨kk, 0, none⟩ = some (.int .u64 (ra : Int)) ∧ W.cell? ⟨kk, 1, none⟩ = some (.int .u64 (rb : Int)) ∧ W.cell? ⟨kk, 2, none⟩ = some (.int .u64 (rc : Int)) ∧ W.cell? ⟨kk, 3, none⟩ = some (.int .u64 (rd : Int))) ∧ Lw w W g X Y Z X) (by kernel_rfl) (SC.out _ hB0) (fun hHeld => ?_)
        refine wpAnyH_take (i := 0) (v := ?va0) rfl (by kernel_rfl) (by kernel_rfl) (by kernel_rfl) (fun _ _ _ h => h) (Or.inl ⟨by rfl, ?ha0⟩) (by assumption) ?_
        case ha0 => (intro w' hSw; (try dsimp only at hSw); go_simp; try with_reducible rfl)
        try simp only [Act.put, List.getElem_toArray, List.getElem_cons_succ, List.getElem_cons_zero, List.setIfInBounds_toArray, List.set_cons_zero, List.set_cons_succ]
        refine wpAnyH_ready (rs := [1]) (by kernel_rfl) (by simp) ?_
        refine AllReadyH.cons (o := _) rfl (fun K hK => ?_) AllReadyH.nil
        go_simp
        (go_at_call 23; (with_reducible refine Calls.mono (lift_calls N1.out (w0 := ws) (by assumption)) ?_); rintro e wu ⟨rfl, hBu⟩)
        try go_simp
        refine hK.out _ _ ?_ (fun hHeld => ?_)
        · exact SC.out _ (by assumption)
        clear hK K
        try simp only [Act.put, List.getElem_toArray, List.getElem_cons_succ, List.getElem_cons_zero, List.setIfInBounds_toArray, List.set_cons_zero, List.set_cons_succ]
        refine wpAnyH_take (i := 2) (v := ?va2) rfl (by kernel_rfl) (by kernel_rfl) (by kernel_rfl) (fun _ _ _ h => h) (Or.inl ⟨by rfl, ?ha2⟩) (by assumption) ?_
        case ha2 => (intro w' hSw; (try dsimp only at hSw); go_simp; try with_reducible rfl)
        try simp only [Act.put, List.getElem_toArray, List.getElem_cons_succ, List.getElem_cons_zero, List.setIfInBounds_toArray, List.set_cons_zero, List.set_cons_succ]
        refine wpAnyH_take (i := 3) (v := ?va3) rfl (by kernel_rfl) (by kernel_rfl) (by kernel_rfl) (fun _ _ _ h => h) (Or.inl ⟨by rfl, ?ha3⟩) (by assumption) ?_
        case ha3 => (intro w' hSw; (try dsimp only at hSw); go_simp; try with_reducible rfl)
        try simp only [Act.put, List.getElem_toArray, List.getElem_cons_succ, List.getElem_cons_zero, List.setIfInBounds_toArray, List.set_cons_zero, List.set_cons_succ]
        refine wpAnyH_ready (rs := [4]) (by kernel_rfl) (by simp) ?_
        refine AllReadyH.cons (o := _) rfl (fun K hK => ?_) AllReadyH.nil
        go_simp
        (go_at_call 23; (with_reducible refine Calls.mono (lift_calls N2.out (w0 := ws) (by assumption)) ?_); rintro e wu ⟨rfl, hBu⟩)
        try go_simp
        refine hK.out _ _ ?_ (fun hHeld => ?_)
        · exact SC.out _ (by assumption)
        clear hK K
        try simp only [Act.put, List.getElem_toArray, List.getElem_cons_succ, List.getElem_cons_zero, List.setIfInBounds_toArray, List.set_cons_zero, List.set_cons_succ]
        refine wpAnyH_take (i := 5) (v := ?va5) rfl (by kernel_rfl) (by kernel_rfl) (by kernel_rfl) (fun _ _ _ h => h) (Or.inl ⟨by rfl, ?ha5⟩) (by assumption) ?_
        case ha5 => (intro w' hSw; (try dsimp only at hSw); go_simp; try with_reducible rfl)
        try simp only [Act.put, List.getElem_toArray, List.getElem_cons_succ, List.getElem_cons_zero, List.setIfInBounds_toArray, List.set_cons_zero, List.set_cons_succ]
        refine wpAnyH_take (i := 6) (v := ?va6) rfl (by kernel_rfl) (by kernel_rfl) (by kernel_rfl) (fun _ _ _ h => h) (Or.inl ⟨by rfl, ?ha6⟩) (by assumption) ?_
        case ha6 => (intro w' hSw; (try dsimp only at hSw); go_simp; try with_reducible rfl)
        try simp only [Act.put, List.getElem_toArray, List.getElem_cons_succ, List.getElem_cons_zero, List.setIfInBounds_toArray, List.set_cons_zero, List.set_cons_succ]
        refine wpAnyH_take (i := 7) (v := undef) rfl (by kernel_rfl) (by kernel_rfl) (by kernel_rfl) (fun _ _ _ h => h) (Or.inr ⟨by rfl, rfl⟩) (by assumption) ?_
        try simp only [Act.put, List.getElem_toArray, List.getElem_cons_succ, List.getElem_cons_zero, List.setIfInBounds_toArray, List.set_cons_zero, List.set_cons_succ]
        refine wpAnyH_ready (rs := [8]) (by kernel_rfl) (by simp) ?_
        refine AllReadyH.cons (o := _) rfl (fun K hK => ?_) AllReadyH.nil
        go_simp
        refine hK.out _ _ ?_ (fun hHeld => ?_)
        · exact SC.out _ (by assumption)
        clear hK K
        try simp only [Act.put, List.getElem_toArray, List.getElem_cons_succ, List.getElem_cons_zero, List.setIfInBounds_toArray, List.set_cons_zero, List.set_cons_succ]
        refine wpAnyH_take (i := 9) (v := undef) rfl (by kernel_rfl) (by kernel_rfl) (by kernel_rfl) (fun _ _ _ h => h) (Or.inr ⟨by rfl, rfl⟩) (by assumption) ?_
        try simp only [Act.put, List.getElem_toArray, List.getElem_cons_succ, List.getElem_cons_zero, List.setIfInBounds_toArray, List.set_cons_zero, List.set_cons_succ]
        refine wpAnyH_take (i := 10) (v := undef) rfl (by kernel_rfl) (by kernel_rfl) (by kernel_rfl) (fun _ _ _ h => h) (Or.inr ⟨by rfl, rfl⟩) (by assumption) ?_
        try simp only [Act.put, List.getElem_toArray, List.getElem_cons_succ, List.getElem_cons_zero, List.setIfInBounds_toArray, List.set_cons_zero, List.set_cons_succ]
        refine wpAnyH_take (i := 11) (v := undef) rfl (by kernel_rfl) (by kernel_rfl) (by kernel_rfl) (fun _ _ _ h => h) (Or.inr ⟨by rfl, rfl⟩) (by assumption) ?_
        try simp only [Act.put, List.getElem_toArray, List.getElem_cons_succ, List.getElem_cons_zero, List.setIfInBounds_toArray, List.set_cons_zero, List.set_cons_succ]
        refine wpAnyH_ready (rs := [12]) (by kernel_rfl) (by simp) ?_
        refine AllReadyH.cons (o := _) rfl (fun K hK => ?_) AllReadyH.nil
        go_simp
        refine hK.out _ _ ?_ (fun hHeld => ?_)
        · exact SC.out _ (by assumption)
        clear hK K
        try simp only [Act.put, List.getElem_toArray, List.getElem_cons_succ, List.getElem_cons_zero, List.setIfInBounds_toArray, List.set_cons_zero, List.set_cons_succ]
        refine wpAnyH_ready (rs := [13]) (by kernel_rfl) (by simp) ?_
        refine AllReadyH.cons (o := _) rfl (fun K hK => ?_) AllReadyH.nil
        go_simp
        refine hK.out _ _ ?_ (fun hHeld => ?_)
        · exact SC.out _ (by assumption)
        clear hK K
        try simp only [Act.put, List.getElem_toArray, List.getElem_cons_succ, List.getElem_cons_zero, List.setIfInBounds_toArray, List.set_cons_zero, List.set_cons_succ]
        refine wpAnyH_take (i := 14) (v := undef) rfl (by kernel_rfl) (by kernel_rfl) (by kernel_rfl) (fun _ _ _ h => h) (Or.inr ⟨by rfl, rfl⟩) (by assumption) ?_
        try simp only [Act.put, List.getElem_toArray, List.getElem_cons_succ, List.getElem_cons_zero, List.setIfInBounds_toArray, List.set_cons_zero, List.set_cons_succ]
        refine wpAnyH_take (i := 15) (v := ?va15) rfl (by kernel_rfl) (by kernel_rfl) (by kernel_rfl) (fun _ _ _ h => h) (Or.inl ⟨by rfl, ?ha15⟩) (by assumption) ?_
        case ha15 => (intro w' hSw; (try dsimp only at hSw); go_simp; try with_reducible rfl)
        try simp only [Act.put, List.getElem_toArray, List.getElem_cons_succ, List.getElem_cons_zero, List.setIfInBounds_toArray, List.set_cons_zero, List.set_cons_succ]
        refine wpAnyH_take (i := 16) (v := ?va16) rfl (by kernel_rfl) (by kernel_rfl) (by kernel_rfl) (fun _ _ _ h => h) (Or.inl ⟨by rfl, ?ha16⟩) (by assumption) ?_
        case ha16 => (intro w' hSw; (try dsimp only at hSw); go_simp; try with_reducible rfl)
        try simp only [Act.put, List.getElem_toArray, List.getElem_cons_succ, List.getElem_cons_zero, List.setIfInBounds_toArray, List.set_cons_zero, List.set_cons_succ]
        refine wpAnyH_take (i := 17) (v := ?va17) rfl (by kernel_rfl) (by kernel_rfl) (by kernel_rfl) (fun _ _ _ h => h) (Or.inl ⟨by rfl, ?ha17⟩) (by assumption) ?_
        case ha17 => (intro w' hSw; (try dsimp only at hSw); go_simp; try with_reducible rfl)
        try simp only [Act.put, List.getElem_toArray, List.getElem_cons_succ, List.getElem_cons_zero, List.setIfInBounds_toArray, List.set_cons_zero, List.set_cons_succ]
        refine wpAnyH_take (i := 18) (v := ?va18) rfl (by kernel_rfl) (by kernel_rfl) (by kernel_rfl) (fun _ _ _ h => h) (Or.inl ⟨by rfl, ?ha18⟩) (by assumption) ?_
        case ha18 => (intro w' hSw; (try dsimp only at hSw); go_simp; try with_reducible rfl)
        try simp only [Act.put, List.getElem_toArray, List.getElem_cons_succ, List.getElem_cons_zero, List.setIfInBounds_toArray, List.set_cons_zero, List.set_cons_succ]
        refine wpAnyH_take (i := 19) (v := ?va19) rfl (by kernel_rfl) (by kernel_rfl) (by kernel_rfl) (fun _ _ _ h => h) (Or.inl ⟨by rfl, ?ha19⟩) (by assumption) ?_
        case ha19 => (intro w' hSw; (try dsimp only at hSw); go_simp; try with_reducible rfl)
        try simp only [Act.put, List.getElem_toArray, List.getElem_cons_succ, List.getElem_cons_zero, List.setIfInBounds_toArray, List.set_cons_zero, List.set_cons_succ]
        refine wpAnyH_take (i := 20) (v := ?va20) rfl (by kernel_rfl) (by kernel_rfl) (by kernel_rfl) (fun _ _ _ h => h) (Or.inl ⟨by rfl, ?ha20⟩) (by assumption) ?_
        case ha20 => (intro w' hSw; (try dsimp only at hSw); go_simp; try with_reducible rfl)
        try simp only [Act.put, List.getElem_toArray, List.getElem_cons_succ, List.getElem_cons_zero, List.setIfInBounds_toArray, List.set_cons_zero, List.set_cons_succ]
        refine wpAnyH_take (i := 21) (v := ?va21) rfl (by kernel_rfl) (by kernel_rfl) (by kernel_rfl) (fun _ _ _ h => h) (Or.inl ⟨by rfl, ?ha21⟩) (by assumption) ?_
        case ha21 => (intro w' hSw; (try dsimp only at hSw); go_simp; try with_reducible rfl)
        try simp only [Act.put, List.getElem_toArray, List.getElem_cons_succ, List.getElem_cons_zero, List.setIfInBounds_toArray, List.set_cons_zero, List.set_cons_succ]
        refine wpAnyH_ready (rs := [22]) (by kernel_rfl) (by simp) ?_
        refine AllReadyH.cons (o := _) rfl (fun K hK => ?_) AllReadyH.nil
        go_simp
        (go_at_call 21; (with_reducible refine Calls.mono (lift_calls N4.out (w0 := ws) (by assumption)) ?_); rintro e wu ⟨rfl, hBu⟩)
        try go_simp
        refine hK.out _ _ ?_ (fun hHeld => ?_)
        · exact SC.out _ (by assumption)
        clear hK K
        try simp only [Act.put, List.getElem_toArray, List.getElem_cons_succ, List.getElem_cons_zero, List.setIfInBounds_toArray, List.set_cons_zero, List.set_cons_succ]
        refine wpAnyH_take (i := 23) (v := ?va23) rfl (by kernel_rfl) (by kernel_rfl) (by kernel_rfl) (fun _ _ _ h => h) (Or.inl ⟨by rfl, ?ha23⟩) (by assumption) ?_
        case ha23 => (intro w' hSw; (try dsimp only at hSw); go_simp; try with_reducible rfl)
        try simp only [Act.put, List.getElem_toArray, List.getElem_cons_succ, List.getElem_cons_zero, List.setIfInBounds_toArray, List.set_cons_zero, List.set_cons_succ]
        refine wpAnyH_take (i := 24) (v := undef) rfl (by kernel_rfl) (by kernel_rfl) (by kernel_rfl) (fun _ _ _ h => h) (Or.inr ⟨by rfl, rfl⟩) (by assumption) ?_
        try simp only [Act.put, List.getElem_toArray, List.getElem_cons_succ, List.getElem_cons_zero, List.setIfInBounds_toArray, List.set_cons_zero, List.set_cons_succ]
        refine wpAnyH_take (i := 25) (v := undef) rfl (by kernel_rfl) (by kernel_rfl) (by kernel_rfl) (fun _ _ _ h => h) (Or.inr ⟨by rfl, rfl⟩) (by assumption) ?_
        try simp only [Act.put, List.getElem_toArray, List.getElem_cons_succ, List.getElem_cons_zero, List.setIfInBounds_toArray, List.set_cons_zero, List.set_cons_succ]
        refine wpAnyH_ready (rs := [26]) (by kernel_rfl) (by simp) ?_
        refine AllReadyH.cons (o := _) rfl (fun K hK => ?_) AllReadyH.nil
        go_simp
        refine hK.out _ _ ?_ (fun hHeld => ?_)
        · exact SC.out _ (by assumption)
        clear hK K
        try simp only [Act.put, List.getElem_toArray, List.getElem_cons_succ, List.getElem_cons_zero, List.setIfInBounds_toArray, List.set_cons_zero, List.set_cons_succ]
        refine wpAnyH_ready (rs := [27]) (by kernel_rfl) (by simp) ?_
        refine AllReadyH.cons (o := _) rfl (fun K hK => ?_) AllReadyH.nil
        go_simp
        refine hK.out _ _ ?_ (fun hHeld => ?_)
        · exact SC.out _ (by assumption)
        clear hK K
        try simp only [Act.put, List.getElem_toArray, List.getElem_cons_succ, List.getElem_cons_zero, List.setIfInBounds_toArray, List.set_cons_zero, List.set_cons_succ]
        refine wpAnyH_take (i := 28) (v := ?va28) rfl (by kernel_rfl) (by kernel_rfl) (by kernel_rfl) (fun _ _ _ h => h) (Or.inl ⟨by rfl, ?ha28⟩) (by assumption) ?_
        case ha28 => (intro w' hSw; (try dsimp only at hSw); go_simp; try with_reducible rfl)
        try simp only [Act.put, List.getElem_toArray, List.getElem_cons_succ, List.getElem_cons_zero, List.setIfInBounds_toArray, List.set_cons_zero, List.set_cons_succ]
        refine wpAnyH_take (i := 29) (v := ?va29) rfl (by kernel_rfl) (by kernel_rfl) (by kernel_rfl) (fun _ _ _ h => h) (Or.inl ⟨by rfl, ?ha29⟩) (by assumption) ?_
        case ha29 => (intro w' hSw; (try dsimp only at hSw); go_simp; try with_reducible rfl)
        try simp only [Act.put, List.getElem_toArray, List.getElem_cons_succ, List.getElem_cons_zero, List.setIfInBounds_toArray, List.set_cons_zero, List.set_cons_succ]
        refine wpAnyH_take (i := 30) (v := ?va30) rfl (by kernel_rfl) (by kernel_rfl) (by kernel_rfl) (fun _ _ _ h => h) (Or.inl ⟨by rfl, ?ha30⟩) (by assumption) ?_
        case ha30 => (intro w' hSw; (try dsimp only at hSw); go_simp; try with_reducible rfl)
        try simp only [Act.put, List.getElem_toArray, List.getElem_cons_succ, List.getElem_cons_zero, List.setIfInBounds_toArray, List.set_cons_zero, List.set_cons_succ]
        refine wpAnyH_take (i := 31) (v := ?va31) rfl (by kernel_rfl) (by kernel_rfl) (by kernel_rfl) (fun _ _ _ h => h) (Or.inl ⟨by rfl, ?ha31⟩) (by assumption) ?_
        case ha31 => (intro w' hSw; (try dsimp only at hSw); go_simp; try with_reducible rfl)
        try simp only [Act.put, List.getElem_toArray, List.getElem_cons_succ, List.getElem_cons_zero, List.setIfInBounds_toArray, List.set_cons_zero, List.set_cons_succ]
        refine wpAnyH_take (i := 34) (v := ?va34) rfl (by kernel_rfl) (by kernel_rfl) (by kernel_rfl) (fun _ _ _ h => h) (Or.inl ⟨by rfl, ?ha34⟩) (by assumption) ?_
        case ha34 => (intro w' hSw; (try dsimp only at hSw); go_simp; try with_reducible rfl)
        try simp only [Act.put, List.getElem_toArray, List.getElem_cons_succ, List.getElem_cons_zero, List.setIfInBounds_toArray, List.set_cons_zero, List.set_cons_succ]
        refine wpAnyH_ready (rs := [32]) (by kernel_rfl) (by simp) ?_
        refine AllReadyH.cons (o := _) rfl (fun K hK => ?_) AllReadyH.nil
        go_simp
        (go_at_call 33; (with_reducible refine Calls.mono (N6.out _) ?_); rintro e wb ⟨Ab, cb, rfl, hSb, hbb⟩; have hBb := hBu.trans (hbb.mono hBu.size))
        try go_simp
        refine hK.out _ _ ?_ (fun hHeld => ?_)
        · exact SC.out _ (by assumption)
        clear hK K
        try simp only [Act.put, List.getElem_toArray, List.getElem_cons_succ, List.getElem_cons_zero, List.setIfInBounds_toArray, List.set_cons_zero, List.set_cons_succ]
        refine wpAnyH_ready (rs := [33]) (by kernel_rfl) (by simp) ?_
        refine AllReadyH.cons (o := _) rfl (fun K hK => ?_) AllReadyH.nil
        go_simp
        (go_at_call 7; refine (N7.out _ _ _ hSb).mono ?_; rintro e wv ⟨rfl, hbv⟩; have hBv := hBb.trans (hbv.mono hBb.size))
        try go_simp
        refine hK.out _ _ ?_ (fun hHeld => ?_)
        · exact SC.out _ (by assumption)
        clear hK K
        try simp only [Act.put, List.getElem_toArray, List.getElem_cons_succ, List.getElem_cons_zero, List.setIfInBounds_toArray, List.set_cons_zero, List.set_cons_succ]
        refine wpAnyH_ready (rs := [35]) (by kernel_rfl) (by simp) ?_
        refine AllReadyH.cons (o := _) rfl (fun K hK => ?_) AllReadyH.nil
        go_simp
        (go_at_call 21; (with_reducible refine Calls.mono (lift_calls N8.out (w0 := ws) (by assumption)) ?_); rintro e wu ⟨rfl, hBu⟩)
        try go_simp
        refine hK.out _ _ ?_ (fun hHeld => ?_)
        · exact SC.out _ (by assumption)
        clear hK K
        try simp only [Act.put, List.getElem_toArray, List.getElem_cons_succ, List.getElem_cons_zero, List.setIfInBounds_toArray, List.set_cons_zero, List.set_cons_succ]
        refine wpAnyH_take (i := 36) (v := ?va36) rfl (by kernel_rfl) (by kernel_rfl) (by kernel_rfl) (fun _ _ _ h => h) (Or.inl ⟨by rfl, ?ha36⟩) (by assumption) ?_
        case ha36 => (intro w' hSw; (try dsimp only at hSw); go_simp; try with_reducible rfl)
        try simp only [Act.put, List.getElem_toArray, List.getElem_cons_succ, List.getElem_cons_zero, List.setIfInBounds_toArray, List.set_cons_zero, List.set_cons_succ]
        refine wpAnyH_take (i := 37) (v := ?va37) rfl (by kernel_rfl) (by kernel_rfl) (by kernel_rfl) (fun _ _ _ h => h) (Or.inl ⟨by rfl, ?ha37⟩) (by assumption) ?_
        case ha37 => (intro w' hSw; (try dsimp only at hSw); go_simp; try with_reducible rfl)
        try simp only [Act.put, List.getElem_toArray, List.getElem_cons_succ, List.getElem_cons_zero, List.setIfInBounds_toArray, List.set_cons_zero, List.set_cons_succ]
        refine wpAnyH_done (by kernel_rfl) ?_ _
        go_wp2
        go_ret
        exact ⟨rfl, FB.out.trans (hBu.mono FB.out.size)⟩
      · have hon1 : on = o1 := by rw [HO1.out hx0, HO11.out]
        rw [decide_eq_false hx0] at N1
        rw [decide_eq_true hon1] at N3
        clear hx0 hon1 HO0 HO1 HO11 N2
        by_cases hrx : rt = X
        · rw [decide_eq_true hrx] at N4
          clear hrx HRT N5
          refine wp_region_held_drew (S := fun W => (W.cell? ⟨g, 0, none⟩ = some (.int .u64 (xa : Int)) ∧ W.cell? ⟨g, 1, none⟩ = some (.int .u64 (xb : Int)) ∧ W.cell? ⟨g, 2, none⟩ = some (.int .u64 (xc : Int)) ∧ W.cell? ⟨g, 3, none⟩ = some (.int .u64 (xd : Int))) ∧ (W.cell? ⟨h, 0, none⟩ = some (.int .u64 (oa : Int)) ∧ W.cell? ⟨h, 1, none⟩ = some (.int .u64 (ob : Int)) ∧ W.cell? ⟨h, 2, none⟩ = some (.int .u64 (oc : Int)) ∧ W.cell? ⟨h, 3, none⟩ = some (.int .u64 (od : Int))) ∧ (W.cell? ⟨kk, 0, none⟩ = some (.int .u64 (ra : Int)) ∧ W.cell? ⟨kk, 1, none⟩ = some (.int .u64 (rb : Int)) ∧ W.cell? ⟨kk, 2, none⟩ = some (.int .u64 (rc : Int)) ∧ W.cell? ⟨kk, 3, none⟩ = some (.int .u64 (rd : Int))) ∧ Lw w W g X Y Z X) (by kernel_rfl) (SC.out _ hB0) (fun hHeld => ?_)
          refine wpAnyH_take (i := 0) (v := ?vb0) rfl (by kernel_rfl) (by kernel_rfl) (by kernel_rfl) (fun _ _ _ h => h) (Or.inl ⟨by rfl, ?hb0⟩) (by assumption) ?_
          case hb0 => (intro w' hSw; (try dsimp only at hSw); go_simp; try with_reducible rfl)
          try simp only [Act.put, List.getElem_toArray, List.getElem_cons_succ, List.getElem_cons_zero, List.setIfInBounds_toArray, List.set_cons_zero, List.set_cons_succ]
          refine wpAnyH_ready (rs := [1]) (by kernel_rfl) (by simp) ?_
          refine AllReadyH.cons (o := _) rfl (fun K hK => ?_) AllReadyH.nil
          go_simp
          (go_at_call 23; (with_reducible refine Calls.mono (lift_calls N1.out (w0 := ws) (by assumption)) ?_); rintro e wu ⟨rfl, hBu⟩)
          try go_simp
          refine hK.out _ _ ?_ (fun hHeld => ?_)
          · exact SC.out _ (by assumption)
          clear hK K
          try simp only [Act.put, List.getElem_toArray, List.getElem_cons_succ, List.getElem_cons_zero, List.setIfInBounds_toArray, List.set_cons_zero, List.set_cons_succ]
          refine wpAnyH_take (i := 2) (v := ?vb2) rfl (by kernel_rfl) (by kernel_rfl) (by kernel_rfl) (fun _ _ _ h => h) (Or.inl ⟨by rfl, ?hb2⟩) (by assumption) ?_
          case hb2 => (intro w' hSw; (try dsimp only at hSw); go_simp; try with_reducible rfl)
          try simp only [Act.put, List.getElem_toArray, List.getElem_cons_succ, List.getElem_cons_zero, List.setIfInBounds_toArray, List.set_cons_zero, List.set_cons_succ]
          refine wpAnyH_take (i := 3) (v := undef) rfl (by kernel_rfl) (by kernel_rfl) (by kernel_rfl) (fun _ _ _ h => h) (Or.inr ⟨by rfl, rfl⟩) (by assumption) ?_
          try simp only [Act.put, List.getElem_toArray, List.getElem_cons_succ, List.getElem_cons_zero, List.setIfInBounds_toArray, List.set_cons_zero, List.set_cons_succ]
          refine wpAnyH_ready (rs := [4]) (by kernel_rfl) (by simp) ?_
          refine AllReadyH.cons (o := _) rfl (fun K hK => ?_) AllReadyH.nil
          go_simp
          refine hK.out _ _ ?_ (fun hHeld => ?_)
          · exact SC.out _ (by assumption)
          clear hK K
          try simp only [Act.put, List.getElem_toArray, List.getElem_cons_succ, List.getElem_cons_zero, List.setIfInBounds_toArray, List.set_cons_zero, List.set_cons_succ]
          refine wpAnyH_take (i := 5) (v := ?vb5) rfl (by kernel_rfl) (by kernel_rfl) (by kernel_rfl) (fun _ _ _ h => h) (Or.inl ⟨by rfl, ?hb5⟩) (by assumption) ?_
          case hb5 => (intro w' hSw; (try dsimp only at hSw); go_simp; try with_reducible rfl)
          try simp only [Act.put, List.getElem_toArray, List.getElem_cons_succ, List.getElem_cons_zero, List.setIfInBounds_toArray, List.set_cons_zero, List.set_cons_succ]
          refine wpAnyH_take (i := 6) (v := ?vb6) rfl (by kernel_rfl) (by kernel_rfl) (by kernel_rfl) (fun _ _ _ h => h) (Or.inl ⟨by rfl, ?hb6⟩) (by assumption) ?_
          case hb6 => (intro w' hSw; (try dsimp only at hSw); go_simp; try with_reducible rfl)
          try simp only [Act.put, List.getElem_toArray, List.getElem_cons_succ, List.getElem_cons_zero, List.setIfInBounds_toArray, List.set_cons_zero, List.set_cons_succ]
          refine wpAnyH_take (i := 7) (v := ?vb7) rfl (by kernel_rfl) (by kernel_rfl) (by kernel_rfl) (fun _ _ _ h => h) (Or.inl ⟨by rfl, ?hb7⟩) (by assumption) ?_
          case hb7 => (intro w' hSw; (try dsimp only at hSw); go_simp; try with_reducible rfl)
          try simp only [Act.put, List.getElem_toArray, List.getElem_cons_succ, List.getElem_cons_zero, List.setIfInBounds_toArray, List.set_cons_zero, List.set_cons_succ]
          refine wpAnyH_ready (rs := [8]) (by kernel_rfl) (by simp) ?_
          refine AllReadyH.cons (o := _) rfl (fun K hK => ?_) AllReadyH.nil
          go_simp
          (go_at_call 23; (with_reducible refine Calls.mono (lift_calls N1.out (w0 := ws) (by assumption)) ?_); rintro e wu ⟨rfl, hBu⟩)
          try go_simp
          refine hK.out _ _ ?_ (fun hHeld => ?_)
          · exact SC.out _ (by assumption)
          clear hK K
          try simp only [Act.put, List.getElem_toArray, List.getElem_cons_succ, List.getElem_cons_zero, List.setIfInBounds_toArray, List.set_cons_zero, List.set_cons_succ]
          refine wpAnyH_take (i := 9) (v := ?vb9) rfl (by kernel_rfl) (by kernel_rfl) (by kernel_rfl) (fun _ _ _ h => h) (Or.inl ⟨by rfl, ?hb9⟩) (by assumption) ?_
          case hb9 => (intro w' hSw; (try dsimp only at hSw); go_simp; try with_reducible rfl)
          try simp only [Act.put, List.getElem_toArray, List.getElem_cons_succ, List.getElem_cons_zero, List.setIfInBounds_toArray, List.set_cons_zero, List.set_cons_succ]
          refine wpAnyH_take (i := 10) (v := ?vb10) rfl (by kernel_rfl) (by kernel_rfl) (by kernel_rfl) (fun _ _ _ h => h) (Or.inl ⟨by rfl, ?hb10⟩) (by assumption) ?_
          case hb10 => (intro w' hSw; (try dsimp only at hSw); go_simp; try with_reducible rfl)
          try simp only [Act.put, List.getElem_toArray, List.getElem_cons_succ, List.getElem_cons_zero, List.setIfInBounds_toArray, List.set_cons_zero, List.set_cons_succ]
          refine wpAnyH_take (i := 11) (v := ?vb11) rfl (by kernel_rfl) (by kernel_rfl) (by kernel_rfl) (fun _ _ _ h => h) (Or.inl ⟨by rfl, ?hb11⟩) (by assumption) ?_
          case hb11 => (intro w' hSw; (try dsimp only at hSw); go_simp; try with_reducible rfl)
          try simp only [Act.put, List.getElem_toArray, List.getElem_cons_succ, List.getElem_cons_zero, List.setIfInBounds_toArray, List.set_cons_zero, List.set_cons_succ]
          refine wpAnyH_ready (rs := [12]) (by kernel_rfl) (by simp) ?_
          refine AllReadyH.cons (o := _) rfl (fun K hK => ?_) AllReadyH.nil
          go_simp
          (go_at_call 11; (with_reducible refine Calls.mono (lift_calls M6.out (w0 := ws) (by assumption)) ?_); rintro e wu ⟨rfl, hBu⟩)
          try go_simp
          refine hK.out _ _ ?_ (fun hHeld => ?_)
          · exact SC.out _ (by assumption)
          clear hK K
          try simp only [Act.put, List.getElem_toArray, List.getElem_cons_succ, List.getElem_cons_zero, List.setIfInBounds_toArray, List.set_cons_zero, List.set_cons_succ]
          refine wpAnyH_ready (rs := [13]) (by kernel_rfl) (by simp) ?_
          refine AllReadyH.cons (o := _) rfl (fun K hK => ?_) AllReadyH.nil
          go_simp
          (go_at_call 21; (with_reducible refine Calls.mono (lift_calls N3.out (w0 := ws) (by assumption)) ?_); rintro e wu ⟨rfl, hBu⟩)
          try go_simp
          refine hK.out _ _ ?_ (fun hHeld => ?_)
          · exact SC.out _ (by assumption)
          clear hK K
          try simp only [Act.put, List.getElem_toArray, List.getElem_cons_succ, List.getElem_cons_zero, List.setIfInBounds_toArray, List.set_cons_zero, List.set_cons_succ]
          refine wpAnyH_take (i := 14) (v := ?vb14) rfl (by kernel_rfl) (by kernel_rfl) (by kernel_rfl) (fun _ _ _ h => h) (Or.inl ⟨by rfl, ?hb14⟩) (by assumption) ?_
          case hb14 => (intro w' hSw; (try dsimp only at hSw); go_simp; try with_reducible rfl)
          try simp only [Act.put, List.getElem_toArray, List.getElem_cons_succ, List.getElem_cons_zero, List.setIfInBounds_toArray, List.set_cons_zero, List.set_cons_succ]
          refine wpAnyH_take (i := 15) (v := ?vb15) rfl (by kernel_rfl) (by kernel_rfl) (by kernel_rfl) (fun _ _ _ h => h) (Or.inl ⟨by rfl, ?hb15⟩) (by assumption) ?_
          case hb15 => (intro w' hSw; (try dsimp only at hSw); go_simp; try with_reducible rfl)
          try simp only [Act.put, List.getElem_toArray, List.getElem_cons_succ, List.getElem_cons_zero, List.setIfInBounds_toArray, List.set_cons_zero, List.set_cons_succ]
          refine wpAnyH_take (i := 16) (v := ?vb16) rfl (by kernel_rfl) (by kernel_rfl) (by kernel_rfl) (fun _ _ _ h => h) (Or.inl ⟨by rfl, ?hb16⟩) (by assumption) ?_
          case hb16 => (intro w' hSw; (try dsimp only at hSw); go_simp; try with_reducible rfl)
          try simp only [Act.put, List.getElem_toArray, List.getElem_cons_succ, List.getElem_cons_zero, List.setIfInBounds_toArray, List.set_cons_zero, List.set_cons_succ]
          refine wpAnyH_take (i := 17) (v := ?vb17) rfl (by kernel_rfl) (by kernel_rfl) (by kernel_rfl) (fun _ _ _ h => h) (Or.inl ⟨by rfl, ?hb17⟩) (by assumption) ?_
          case hb17 => (intro w' hSw; (try dsimp only at hSw); go_simp; try with_reducible rfl)
          try simp only [Act.put, List.getElem_toArray, List.getElem_cons_succ, List.getElem_cons_zero, List.setIfInBounds_toArray, List.set_cons_zero, List.set_cons_succ]
          refine wpAnyH_take (i := 18) (v := ?vb18) rfl (by kernel_rfl) (by kernel_rfl) (by kernel_rfl) (fun _ _ _ h => h) (Or.inl ⟨by rfl, ?hb18⟩) (by assumption) ?_
          case hb18 => (intro w' hSw; (try dsimp only at hSw); go_simp; try with_reducible rfl)
          try simp only [Act.put, List.getElem_toArray, List.getElem_cons_succ, List.getElem_cons_zero, List.setIfInBounds_toArray, List.set_cons_zero, List.set_cons_succ]
          refine wpAnyH_take (i := 19) (v := ?vb19) rfl (by kernel_rfl) (by kernel_rfl) (by kernel_rfl) (fun _ _ _ h => h) (Or.inl ⟨by rfl, ?hb19⟩) (by assumption) ?_
          case hb19 => (intro w' hSw; (try dsimp only at hSw); go_simp; try with_reducible rfl)
          try simp only [Act.put, List.getElem_toArray, List.getElem_cons_succ, List.getElem_cons_zero, List.setIfInBounds_toArray, List.set_cons_zero, List.set_cons_succ]
          refine wpAnyH_take (i := 20) (v := ?vb20) rfl (by kernel_rfl) (by kernel_rfl) (by kernel_rfl) (fun _ _ _ h => h) (Or.inl ⟨by rfl, ?hb20⟩) (by assumption) ?_
          case hb20 => (intro w' hSw; (try dsimp only at hSw); go_simp; try with_reducible rfl)
          try simp only [Act.put, List.getElem_toArray, List.getElem_cons_succ, List.getElem_cons_zero, List.setIfInBounds_toArray, List.set_cons_zero, List.set_cons_succ]
          refine wpAnyH_take (i := 21) (v := ?vb21) rfl (by kernel_rfl) (by kernel_rfl) (by kernel_rfl) (fun _ _ _ h => h) (Or.inl ⟨by rfl, ?hb21⟩) (by assumption) ?_
          case hb21 => (intro w' hSw; (try dsimp only at hSw); go_simp; try with_reducible rfl)
          try simp only [Act.put, List.getElem_toArray, List.getElem_cons_succ, List.getElem_cons_zero, List.setIfInBounds_toArray, List.set_cons_zero, List.set_cons_succ]
          refine wpAnyH_ready (rs := [22]) (by kernel_rfl) (by simp) ?_
          refine AllReadyH.cons (o := _) rfl (fun K hK => ?_) AllReadyH.nil
          go_simp
          (go_at_call 21; (with_reducible refine Calls.mono (lift_calls N4.out (w0 := ws) (by assumption)) ?_); rintro e wu ⟨rfl, hBu⟩)
          try go_simp
          refine hK.out _ _ ?_ (fun hHeld => ?_)
          · exact SC.out _ (by assumption)
          clear hK K
          try simp only [Act.put, List.getElem_toArray, List.getElem_cons_succ, List.getElem_cons_zero, List.setIfInBounds_toArray, List.set_cons_zero, List.set_cons_succ]
          refine wpAnyH_take (i := 23) (v := ?vb23) rfl (by kernel_rfl) (by kernel_rfl) (by kernel_rfl) (fun _ _ _ h => h) (Or.inl ⟨by rfl, ?hb23⟩) (by assumption) ?_
          case hb23 => (intro w' hSw; (try dsimp only at hSw); go_simp; try with_reducible rfl)
          try simp only [Act.put, List.getElem_toArray, List.getElem_cons_succ, List.getElem_cons_zero, List.setIfInBounds_toArray, List.set_cons_zero, List.set_cons_succ]
          refine wpAnyH_take (i := 24) (v := undef) rfl (by kernel_rfl) (by kernel_rfl) (by kernel_rfl) (fun _ _ _ h => h) (Or.inr ⟨by rfl, rfl⟩) (by assumption) ?_
          try simp only [Act.put, List.getElem_toArray, List.getElem_cons_succ, List.getElem_cons_zero, List.setIfInBounds_toArray, List.set_cons_zero, List.set_cons_succ]
          refine wpAnyH_take (i := 25) (v := undef) rfl (by kernel_rfl) (by kernel_rfl) (by kernel_rfl) (fun _ _ _ h => h) (Or.inr ⟨by rfl, rfl⟩) (by assumption) ?_
          try simp only [Act.put, List.getElem_toArray, List.getElem_cons_succ, List.getElem_cons_zero, List.setIfInBounds_toArray, List.set_cons_zero, List.set_cons_succ]
          refine wpAnyH_ready (rs := [26]) (by kernel_rfl) (by simp) ?_
          refine AllReadyH.cons (o := _) rfl (fun K hK => ?_) AllReadyH.nil
          go_simp
          refine hK.out _ _ ?_ (fun hHeld => ?_)
          · exact SC.out _ (by assumption)
          clear hK K
          try simp only [Act.put, List.getElem_toArray, List.getElem_cons_succ, List.getElem_cons_zero, List.setIfInBounds_toArray, List.set_cons_zero, List.set_cons_succ]
          refine wpAnyH_ready (rs := [27]) (by kernel_rfl) (by simp) ?_
          refine AllReadyH.cons (o := _) rfl (fun K hK => ?_) AllReadyH.nil
          go_simp
          refine hK.out _ _ ?_ (fun hHeld => ?_)
          · exact SC.out _ (by assumption)
          clear hK K
          try simp only [Act.put, List.getElem_toArray, List.getElem_cons_succ, List.getElem_cons_zero, List.setIfInBounds_toArray, List.set_cons_zero, List.set_cons_succ]
          refine wpAnyH_take (i := 28) (v := ?vb28) rfl (by kernel_rfl) (by kernel_rfl) (by kernel_rfl) (fun _ _ _ h => h) (Or.inl ⟨by rfl, ?hb28⟩) (by assumption) ?_
          case hb28 => (intro w' hSw; (try dsimp only at hSw); go_simp; try with_reducible rfl)
          try simp only [Act.put, List.getElem_toArray, List.getElem_cons_succ, List.getElem_cons_zero, List.setIfInBounds_toArray, List.set_cons_zero, List.set_cons_succ]
          refine wpAnyH_take (i := 29) (v := ?vb29) rfl (by kernel_rfl) (by kernel_rfl) (by kernel_rfl) (fun _ _ _ h => h) (Or.inl ⟨by rfl, ?hb29⟩) (by assumption) ?_
          case hb29 => (intro w' hSw; (try dsimp only at hSw); go_simp; try with_reducible rfl)
          try simp only [Act.put, List.getElem_toArray, List.getElem_cons_succ, List.getElem_cons_zero, List.setIfInBounds_toArray, List.set_cons_zero, List.set_cons_succ]
          refine wpAnyH_take (i := 30) (v := ?vb30) rfl (by kernel_rfl) (by kernel_rfl) (by kernel_rfl) (fun _ _ _ h => h) (Or.inl ⟨by rfl, ?hb30⟩) (by assumption) ?_
          case hb30 => (intro w' hSw; (try dsimp only at hSw); go_simp; try with_reducible rfl)
          try simp only [Act.put, List.getElem_toArray, List.getElem_cons_succ, List.getElem_cons_zero, List.setIfInBounds_toArray, List.set_cons_zero, List.set_cons_succ]
          refine wpAnyH_take (i := 31) (v := ?vb31) rfl (by kernel_rfl) (by kernel_rfl) (by kernel_rfl) (fun _ _ _ h => h) (Or.inl ⟨by rfl, ?hb31⟩) (by assumption) ?_
          case hb31 => (intro w' hSw; (try dsimp only at hSw); go_simp; try with_reducible rfl)
          try simp only [Act.put, List.getElem_toArray, List.getElem_cons_succ, List.getElem_cons_zero, List.setIfInBounds_toArray, List.set_cons_zero, List.set_cons_succ]
          refine wpAnyH_take (i := 34) (v := ?vb34) rfl (by kernel_rfl) (by kernel_rfl) (by kernel_rfl) (fun _ _ _ h => h) (Or.inl ⟨by rfl, ?hb34⟩) (by assumption) ?_
          case hb34 => (intro w' hSw; (try dsimp only at hSw); go_simp; try with_reducible rfl)
          try simp only [Act.put, List.getElem_toArray, List.getElem_cons_succ, List.getElem_cons_zero, List.setIfInBounds_toArray, List.set_cons_zero, List.set_cons_succ]
          refine wpAnyH_ready (rs := [32]) (by kernel_rfl) (by simp) ?_
          refine AllReadyH.cons (o := _) rfl (fun K hK => ?_) AllReadyH.nil
          go_simp
          (go_at_call 33; (with_reducible refine Calls.mono (N6.out _) ?_); rintro e wb ⟨Ab, cb, rfl, hSb, hbb⟩; have hBb := hBu.trans (hbb.mono hBu.size))
          try go_simp
          refine hK.out _ _ ?_ (fun hHeld => ?_)
          · exact SC.out _ (by assumption)
          clear hK K
          try simp only [Act.put, List.getElem_toArray, List.getElem_cons_succ, List.getElem_cons_zero, List.setIfInBounds_toArray, List.set_cons_zero, List.set_cons_succ]
          refine wpAnyH_ready (rs := [33]) (by kernel_rfl) (by simp) ?_
          refine AllReadyH.cons (o := _) rfl (fun K hK => ?_) AllReadyH.nil
          go_simp
          (go_at_call 7; refine (N7.out _ _ _ hSb).mono ?_; rintro e wv ⟨rfl, hbv⟩; have hBv := hBb.trans (hbv.mono hBb.size))
          try go_simp
          refine hK.out _ _ ?_ (fun hHeld => ?_)
          · exact SC.out _ (by assumption)
          clear hK K
          try simp only [Act.put, List.getElem_toArray, List.getElem_cons_succ, List.getElem_cons_zero, List.setIfInBounds_toArray, List.set_cons_zero, List.set_cons_succ]
          refine wpAnyH_ready (rs := [35]) (by kernel_rfl) (by simp) ?_
          refine AllReadyH.cons (o := _) rfl (fun K hK => ?_) AllReadyH.nil
          go_simp
          (go_at_call 21; (with_reducible refine Calls.mono (lift_calls N8.out (w0 := ws) (by assumption)) ?_); rintro e wu ⟨rfl, hBu⟩)
          try go_simp
          refine hK.out _ _ ?_ (fun hHeld => ?_)
          · exact SC.out _ (by assumption)
          clear hK K
          try simp only [Act.put, List.getElem_toArray, List.getElem_cons_succ, List.getElem_cons_zero, List.setIfInBounds_toArray, List.set_cons_zero, List.set_cons_succ]
          refine wpAnyH_take (i := 36) (v := ?vb36) rfl (by kernel_rfl) (by kernel_rfl) (by kernel_rfl) (fun _ _ _ h => h) (Or.inl ⟨by rfl, ?hb36⟩) (by assumption) ?_
          case hb36 => (intro w' hSw; (try dsimp only at hSw); go_simp; try with_reducible rfl)
          try simp only [Act.put, List.getElem_toArray, List.getElem_cons_succ, List.getElem_cons_zero, List.setIfInBounds_toArray, List.set_cons_zero, List.set_cons_succ]
          refine wpAnyH_take (i := 37) (v := ?vb37) rfl (by kernel_rfl) (by kernel_rfl) (by kernel_rfl) (fun _ _ _ h => h) (Or.inl ⟨by rfl, ?hb37⟩) (by assumption) ?_
          case hb37 => (intro w' hSw; (try dsimp only at hSw); go_simp; try with_reducible rfl)
          try simp only [Act.put, List.getElem_toArray, List.getElem_cons_succ, List.getElem_cons_zero, List.setIfInBounds_toArray, List.set_cons_zero, List.set_cons_succ]
          refine wpAnyH_done (by kernel_rfl) ?_ _
          go_wp2
          go_ret
          exact ⟨rfl, FB.out.trans (hBu.mono FB.out.size)⟩
        · have hrn := (HRT.out).resolve_left hrx
          rw [decide_eq_false hrx] at N4
          rw [decide_eq_true hrn] at N5
          clear hrx hrn HRT
          refine wp_region_held_drew (S := fun W => (W.cell? ⟨g, 0, none⟩ = some (.int .u64 (xa : Int)) ∧ W.cell? ⟨g, 1, none⟩ = some (.int .u64 (xb : Int)) ∧ W.cell? ⟨g, 2, none⟩ = some (.int .u64 (xc : Int)) ∧ W.cell? ⟨g, 3, none⟩ = some (.int .u64 (xd : Int))) ∧ (W.cell? ⟨h, 0, none⟩ = some (.int .u64 (oa : Int)) ∧ W.cell? ⟨h, 1, none⟩ = some (.int .u64 (ob : Int)) ∧ W.cell? ⟨h, 2, none⟩ = some (.int .u64 (oc : Int)) ∧ W.cell? ⟨h, 3, none⟩ = some (.int .u64 (od : Int))) ∧ (W.cell? ⟨kk, 0, none⟩ = some (.int .u64 (ra : Int)) ∧ W.cell? ⟨kk, 1, none⟩ = some (.int .u64 (rb : Int)) ∧ W.cell? ⟨kk, 2, none⟩ = some (.int .u64 (rc : Int)) ∧ W.cell? ⟨kk, 3, none⟩ = some (.int .u64 (rd : Int))) ∧ Lw w W g X Y Z X) (by kernel_rfl) (SC.out _ hB0) (fun hHeld => ?_)
          refine wpAnyH_take (i := 0) (v := ?vc0) rfl (by kernel_rfl) (by kernel_rfl) (by kernel_rfl) (fun _ _ _ h => h) (Or.inl ⟨by rfl, ?hc0⟩) (by assumption) ?_
          case hc0 => (intro w' hSw; (try dsimp only at hSw); go_simp; try with_reducible rfl)
          try simp only [Act.put, List.getElem_toArray, List.getElem_cons_succ, List.getElem_cons_zero, List.setIfInBounds_toArray, List.set_cons_zero, List.set_cons_succ]
          refine wpAnyH_ready (rs := [1]) (by kernel_rfl) (by simp) ?_
          refine AllReadyH.cons (o := _) rfl (fun K hK => ?_) AllReadyH.nil
          go_simp
          (go_at_call 23; (with_reducible refine Calls.mono (lift_calls N1.out (w0 := ws) (by assumption)) ?_); rintro e wu ⟨rfl, hBu⟩)
          try go_simp
          refine hK.out _ _ ?_ (fun hHeld => ?_)
          · exact SC.out _ (by assumption)
          clear hK K
          try simp only [Act.put, List.getElem_toArray, List.getElem_cons_succ, List.getElem_cons_zero, List.setIfInBounds_toArray, List.set_cons_zero, List.set_cons_succ]
          refine wpAnyH_take (i := 2) (v := ?vc2) rfl (by kernel_rfl) (by kernel_rfl) (by kernel_rfl) (fun _ _ _ h => h) (Or.inl ⟨by rfl, ?hc2⟩) (by assumption) ?_
          case hc2 => (intro w' hSw; (try dsimp only at hSw); go_simp; try with_reducible rfl)
          try simp only [Act.put, List.getElem_toArray, List.getElem_cons_succ, List.getElem_cons_zero, List.setIfInBounds_toArray, List.set_cons_zero, List.set_cons_succ]
          refine wpAnyH_take (i := 3) (v := undef) rfl (by kernel_rfl) (by kernel_rfl) (by kernel_rfl) (fun _ _ _ h => h) (Or.inr ⟨by rfl, rfl⟩) (by assumption) ?_
          try simp only [Act.put, List.getElem_toArray, List.getElem_cons_succ, List.getElem_cons_zero, List.setIfInBounds_toArray, List.set_cons_zero, List.set_cons_succ]
          refine wpAnyH_ready (rs := [4]) (by kernel_rfl) (by simp) ?_
          refine AllReadyH.cons (o := _) rfl (fun K hK => ?_) AllReadyH.nil
          go_simp
          refine hK.out _ _ ?_ (fun hHeld => ?_)
          · exact SC.out _ (by assumption)
          clear hK K
          try simp only [Act.put, List.getElem_toArray, List.getElem_cons_succ, List.getElem_cons_zero, List.setIfInBounds_toArray, List.set_cons_zero, List.set_cons_succ]
          refine wpAnyH_take (i := 5) (v := ?vc5) rfl (by kernel_rfl) (by kernel_rfl) (by kernel_rfl) (fun _ _ _ h => h) (Or.inl ⟨by rfl, ?hc5⟩) (by assumption) ?_
          case hc5 => (intro w' hSw; (try dsimp only at hSw); go_simp; try with_reducible rfl)
          try simp only [Act.put, List.getElem_toArray, List.getElem_cons_succ, List.getElem_cons_zero, List.setIfInBounds_toArray, List.set_cons_zero, List.set_cons_succ]
          refine wpAnyH_take (i := 6) (v := ?vc6) rfl (by kernel_rfl) (by kernel_rfl) (by kernel_rfl) (fun _ _ _ h => h) (Or.inl ⟨by rfl, ?hc6⟩) (by assumption) ?_
          case hc6 => (intro w' hSw; (try dsimp only at hSw); go_simp; try with_reducible rfl)
          try simp only [Act.put, List.getElem_toArray, List.getElem_cons_succ, List.getElem_cons_zero, List.setIfInBounds_toArray, List.set_cons_zero, List.set_cons_succ]
          refine wpAnyH_take (i := 7) (v := ?vc7) rfl (by kernel_rfl) (by kernel_rfl) (by kernel_rfl) (fun _ _ _ h => h) (Or.inl ⟨by rfl, ?hc7⟩) (by assumption) ?_
          case hc7 => (intro w' hSw; (try dsimp only at hSw); go_simp; try with_reducible rfl)
          try simp only [Act.put, List.getElem_toArray, List.getElem_cons_succ, List.getElem_cons_zero, List.setIfInBounds_toArray, List.set_cons_zero, List.set_cons_succ]
          refine wpAnyH_ready (rs := [8]) (by kernel_rfl) (by simp) ?_
          refine AllReadyH.cons (o := _) rfl (fun K hK => ?_) AllReadyH.nil
          go_simp
          (go_at_call 23; (with_reducible refine Calls.mono (lift_calls N1.out (w0 := ws) (by assumption)) ?_); rintro e wu ⟨rfl, hBu⟩)
          try go_simp
          refine hK.out _ _ ?_ (fun hHeld => ?_)
          · exact SC.out _ (by assumption)
          clear hK K
          try simp only [Act.put, List.getElem_toArray, List.getElem_cons_succ, List.getElem_cons_zero, List.setIfInBounds_toArray, List.set_cons_zero, List.set_cons_succ]
          refine wpAnyH_take (i := 9) (v := ?vc9) rfl (by kernel_rfl) (by kernel_rfl) (by kernel_rfl) (fun _ _ _ h => h) (Or.inl ⟨by rfl, ?hc9⟩) (by assumption) ?_
          case hc9 => (intro w' hSw; (try dsimp only at hSw); go_simp; try with_reducible rfl)
          try simp only [Act.put, List.getElem_toArray, List.getElem_cons_succ, List.getElem_cons_zero, List.setIfInBounds_toArray, List.set_cons_zero, List.set_cons_succ]
          refine wpAnyH_take (i := 10) (v := ?vc10) rfl (by kernel_rfl) (by kernel_rfl) (by kernel_rfl) (fun _ _ _ h => h) (Or.inl ⟨by rfl, ?hc10⟩) (by assumption) ?_
          case hc10 => (intro w' hSw; (try dsimp only at hSw); go_simp; try with_reducible rfl)
          try simp only [Act.put, List.getElem_toArray, List.getElem_cons_succ, List.getElem_cons_zero, List.setIfInBounds_toArray, List.set_cons_zero, List.set_cons_succ]
          refine wpAnyH_take (i := 11) (v := ?vc11) rfl (by kernel_rfl) (by kernel_rfl) (by kernel_rfl) (fun _ _ _ h => h) (Or.inl ⟨by rfl, ?hc11⟩) (by assumption) ?_
          case hc11 => (intro w' hSw; (try dsimp only at hSw); go_simp; try with_reducible rfl)
          try simp only [Act.put, List.getElem_toArray, List.getElem_cons_succ, List.getElem_cons_zero, List.setIfInBounds_toArray, List.set_cons_zero, List.set_cons_succ]
          refine wpAnyH_ready (rs := [12]) (by kernel_rfl) (by simp) ?_
          refine AllReadyH.cons (o := _) rfl (fun K hK => ?_) AllReadyH.nil
          go_simp
          (go_at_call 11; (with_reducible refine Calls.mono (lift_calls M6.out (w0 := ws) (by assumption)) ?_); rintro e wu ⟨rfl, hBu⟩)
          try go_simp
          refine hK.out _ _ ?_ (fun hHeld => ?_)
          · exact SC.out _ (by assumption)
          clear hK K
          try simp only [Act.put, List.getElem_toArray, List.getElem_cons_succ, List.getElem_cons_zero, List.setIfInBounds_toArray, List.set_cons_zero, List.set_cons_succ]
          refine wpAnyH_ready (rs := [13]) (by kernel_rfl) (by simp) ?_
          refine AllReadyH.cons (o := _) rfl (fun K hK => ?_) AllReadyH.nil
          go_simp
          (go_at_call 21; (with_reducible refine Calls.mono (lift_calls N3.out (w0 := ws) (by assumption)) ?_); rintro e wu ⟨rfl, hBu⟩)
          try go_simp
          refine hK.out _ _ ?_ (fun hHeld => ?_)
          · exact SC.out _ (by assumption)
          clear hK K
          try simp only [Act.put, List.getElem_toArray, List.getElem_cons_succ, List.getElem_cons_zero, List.setIfInBounds_toArray, List.set_cons_zero, List.set_cons_succ]
          refine wpAnyH_take (i := 14) (v := ?vc14) rfl (by kernel_rfl) (by kernel_rfl) (by kernel_rfl) (fun _ _ _ h => h) (Or.inl ⟨by rfl, ?hc14⟩) (by assumption) ?_
          case hc14 => (intro w' hSw; (try dsimp only at hSw); go_simp; try with_reducible rfl)
          try simp only [Act.put, List.getElem_toArray, List.getElem_cons_succ, List.getElem_cons_zero, List.setIfInBounds_toArray, List.set_cons_zero, List.set_cons_succ]
          refine wpAnyH_take (i := 15) (v := ?vc15) rfl (by kernel_rfl) (by kernel_rfl) (by kernel_rfl) (fun _ _ _ h => h) (Or.inl ⟨by rfl, ?hc15⟩) (by assumption) ?_
          case hc15 => (intro w' hSw; (try dsimp only at hSw); go_simp; try with_reducible rfl)
          try simp only [Act.put, List.getElem_toArray, List.getElem_cons_succ, List.getElem_cons_zero, List.setIfInBounds_toArray, List.set_cons_zero, List.set_cons_succ]
          refine wpAnyH_take (i := 16) (v := ?vc16) rfl (by kernel_rfl) (by kernel_rfl) (by kernel_rfl) (fun _ _ _ h => h) (Or.inl ⟨by rfl, ?hc16⟩) (by assumption) ?_
          case hc16 => (intro w' hSw; (try dsimp only at hSw); go_simp; try with_reducible rfl)
          try simp only [Act.put, List.getElem_toArray, List.getElem_cons_succ, List.getElem_cons_zero, List.setIfInBounds_toArray, List.set_cons_zero, List.set_cons_succ]
          refine wpAnyH_take (i := 17) (v := ?vc17) rfl (by kernel_rfl) (by kernel_rfl) (by kernel_rfl) (fun _ _ _ h => h) (Or.inl ⟨by rfl, ?hc17⟩) (by assumption) ?_
          case hc17 => (intro w' hSw; (try dsimp only at hSw); go_simp; try with_reducible rfl)
          try simp only [Act.put, List.getElem_toArray, List.getElem_cons_succ, List.getElem_cons_zero, List.setIfInBounds_toArray, List.set_cons_zero, List.set_cons_succ]
          refine wpAnyH_take (i := 18) (v := ?vc18) rfl (by kernel_rfl) (by kernel_rfl) (by kernel_rfl) (fun _ _ _ h => h) (Or.inl ⟨by rfl, ?hc18⟩) (by assumption) ?_
          case hc18 => (intro w' hSw; (try dsimp only at hSw); go_simp; try with_reducible rfl)
          try simp only [Act.put, List.getElem_toArray, List.getElem_cons_succ, List.getElem_cons_zero, List.setIfInBounds_toArray, List.set_cons_zero, List.set_cons_succ]
          refine wpAnyH_take (i := 19) (v := ?vc19) rfl (by kernel_rfl) (by kernel_rfl) (by kernel_rfl) (fun _ _ _ h => h) (Or.inl ⟨by rfl, ?hc19⟩) (by assumption) ?_
          case hc19 => (intro w' hSw; (try dsimp only at hSw); go_simp; try with_reducible rfl)
          try simp only [Act.put, List.getElem_toArray, List.getElem_cons_succ, List.getElem_cons_zero, List.setIfInBounds_toArray, List.set_cons_zero, List.set_cons_succ]
          refine wpAnyH_take (i := 20) (v := ?vc20) rfl (by kernel_rfl) (by kernel_rfl) (by kernel_rfl) (fun _ _ _ h => h) (Or.inl ⟨by rfl, ?hc20⟩) (by assumption) ?_
          case hc20 => (intro w' hSw; (try dsimp only at hSw); go_simp; try with_reducible rfl)
          try simp only [Act.put, List.getElem_toArray, List.getElem_cons_succ, List.getElem_cons_zero, List.setIfInBounds_toArray, List.set_cons_zero, List.set_cons_succ]
          refine wpAnyH_take (i := 21) (v := ?vc21) rfl (by kernel_rfl) (by kernel_rfl) (by kernel_rfl) (fun _ _ _ h => h) (Or.inl ⟨by rfl, ?hc21⟩) (by assumption) ?_
          case hc21 => (intro w' hSw; (try dsimp only at hSw); go_simp; try with_reducible rfl)
          try simp only [Act.put, List.getElem_toArray, List.getElem_cons_succ, List.getElem_cons_zero, List.setIfInBounds_toArray, List.set_cons_zero, List.set_cons_succ]
          refine wpAnyH_ready (rs := [22]) (by kernel_rfl) (by simp) ?_
          refine AllReadyH.cons (o := _) rfl (fun K hK => ?_) AllReadyH.nil
          go_simp
          (go_at_call 21; (with_reducible refine Calls.mono (lift_calls N4.out (w0 := ws) (by assumption)) ?_); rintro e wu ⟨rfl, hBu⟩)
          try go_simp
          refine hK.out _ _ ?_ (fun hHeld => ?_)
          · exact SC.out _ (by assumption)
          clear hK K
          try simp only [Act.put, List.getElem_toArray, List.getElem_cons_succ, List.getElem_cons_zero, List.setIfInBounds_toArray, List.set_cons_zero, List.set_cons_succ]
          refine wpAnyH_take (i := 23) (v := ?vc23) rfl (by kernel_rfl) (by kernel_rfl) (by kernel_rfl) (fun _ _ _ h => h) (Or.inl ⟨by rfl, ?hc23⟩) (by assumption) ?_
          case hc23 => (intro w' hSw; (try dsimp only at hSw); go_simp; try with_reducible rfl)
          try simp only [Act.put, List.getElem_toArray, List.getElem_cons_succ, List.getElem_cons_zero, List.setIfInBounds_toArray, List.set_cons_zero, List.set_cons_succ]
          refine wpAnyH_take (i := 24) (v := ?vc24) rfl (by kernel_rfl) (by kernel_rfl) (by kernel_rfl) (fun _ _ _ h => h) (Or.inl ⟨by rfl, ?hc24⟩) (by assumption) ?_
          case hc24 => (intro w' hSw; (try dsimp only at hSw); go_simp; try with_reducible rfl)
          try simp only [Act.put, List.getElem_toArray, List.getElem_cons_succ, List.getElem_cons_zero, List.setIfInBounds_toArray, List.set_cons_zero, List.set_cons_succ]
          refine wpAnyH_take (i := 25) (v := ?vc25) rfl (by kernel_rfl) (by kernel_rfl) (by kernel_rfl) (fun _ _ _ h => h) (Or.inl ⟨by rfl, ?hc25⟩) (by assumption) ?_
          case hc25 => (intro w' hSw; (try dsimp only at hSw); go_simp; try with_reducible rfl)
          try simp only [Act.put, List.getElem_toArray, List.getElem_cons_succ, List.getElem_cons_zero, List.setIfInBounds_toArray, List.set_cons_zero, List.set_cons_succ]
          refine wpAnyH_ready (rs := [26]) (by kernel_rfl) (by simp) ?_
          refine AllReadyH.cons (o := _) rfl (fun K hK => ?_) AllReadyH.nil
          go_simp
          (go_at_call 17; (with_reducible refine Calls.mono (lift_calls M3.out (w0 := ws) (by assumption)) ?_); rintro e wu ⟨rfl, hBu⟩)
          try go_simp
          refine hK.out _ _ ?_ (fun hHeld => ?_)
          · exact SC.out _ (by assumption)
          clear hK K
          try simp only [Act.put, List.getElem_toArray, List.getElem_cons_succ, List.getElem_cons_zero, List.setIfInBounds_toArray, List.set_cons_zero, List.set_cons_succ]
          refine wpAnyH_ready (rs := [27]) (by kernel_rfl) (by simp) ?_
          refine AllReadyH.cons (o := _) rfl (fun K hK => ?_) AllReadyH.nil
          go_simp
          (go_at_call 21; (with_reducible refine Calls.mono (lift_calls N5.out (w0 := ws) (by assumption)) ?_); rintro e wu ⟨rfl, hBu⟩)
          try go_simp
          refine hK.out _ _ ?_ (fun hHeld => ?_)
          · exact SC.out _ (by assumption)
          clear hK K
          try simp only [Act.put, List.getElem_toArray, List.getElem_cons_succ, List.getElem_cons_zero, List.setIfInBounds_toArray, List.set_cons_zero, List.set_cons_succ]
          refine wpAnyH_take (i := 28) (v := ?vc28) rfl (by kernel_rfl) (by kernel_rfl) (by kernel_rfl) (fun _ _ _ h => h) (Or.inl ⟨by rfl, ?hc28⟩) (by assumption) ?_
          case hc28 => (intro w' hSw; (try dsimp only at hSw); go_simp; try with_reducible rfl)
          try simp only [Act.put, List.getElem_toArray, List.getElem_cons_succ, List.getElem_cons_zero, List.setIfInBounds_toArray, List.set_cons_zero, List.set_cons_succ]
          refine wpAnyH_take (i := 29) (v := ?vc29) rfl (by kernel_rfl) (by kernel_rfl) (by kernel_rfl) (fun _ _ _ h => h) (Or.inl ⟨by rfl, ?hc29⟩) (by assumption) ?_
          case hc29 => (intro w' hSw; (try dsimp only at hSw); go_simp; try with_reducible rfl)
          try simp only [Act.put, List.getElem_toArray, List.getElem_cons_succ, List.getElem_cons_zero, List.setIfInBounds_toArray, List.set_cons_zero, List.set_cons_succ]
          refine wpAnyH_take (i := 30) (v := ?vc30) rfl (by kernel_rfl) (by kernel_rfl) (by kernel_rfl) (fun _ _ _ h => h) (Or.inl ⟨by rfl, ?hc30⟩) (by assumption) ?_
          case hc30 => (intro w' hSw; (try dsimp only at hSw); go_simp; try with_reducible rfl)
          try simp only [Act.put, List.getElem_toArray, List.getElem_cons_succ, List.getElem_cons_zero, List.setIfInBounds_toArray, List.set_cons_zero, List.set_cons_succ]
          refine wpAnyH_take (i := 31) (v := ?vc31) rfl (by kernel_rfl) (by kernel_rfl) (by kernel_rfl) (fun _ _ _ h => h) (Or.inl ⟨by rfl, ?hc31⟩) (by assumption) ?_
          case hc31 => (intro w' hSw; (try dsimp only at hSw); go_simp; try with_reducible rfl)
          try simp only [Act.put, List.getElem_toArray, List.getElem_cons_succ, List.getElem_cons_zero, List.setIfInBounds_toArray, List.set_cons_zero, List.set_cons_succ]
          refine wpAnyH_take (i := 34) (v := ?vc34) rfl (by kernel_rfl) (by kernel_rfl) (by kernel_rfl) (fun _ _ _ h => h) (Or.inl ⟨by rfl, ?hc34⟩) (by assumption) ?_
          case hc34 => (intro w' hSw; (try dsimp only at hSw); go_simp; try with_reducible rfl)
          try simp only [Act.put, List.getElem_toArray, List.getElem_cons_succ, List.getElem_cons_zero, List.setIfInBounds_toArray, List.set_cons_zero, List.set_cons_succ]
          refine wpAnyH_ready (rs := [32]) (by kernel_rfl) (by simp) ?_
          refine AllReadyH.cons (o := _) rfl (fun K hK => ?_) AllReadyH.nil
          go_simp
          (go_at_call 33; (with_reducible refine Calls.mono (N6.out _) ?_); rintro e wb ⟨Ab, cb, rfl, hSb, hbb⟩; have hBb := hBu.trans (hbb.mono hBu.size))
          try go_simp
          refine hK.out _ _ ?_ (fun hHeld => ?_)
          · exact SC.out _ (by assumption)
          clear hK K
          try simp only [Act.put, List.getElem_toArray, List.getElem_cons_succ, List.getElem_cons_zero, List.setIfInBounds_toArray, List.set_cons_zero, List.set_cons_succ]
          refine wpAnyH_ready (rs := [33]) (by kernel_rfl) (by simp) ?_
          refine AllReadyH.cons (o := _) rfl (fun K hK => ?_) AllReadyH.nil
          go_simp
          (go_at_call 7; refine (N7.out _ _ _ hSb).mono ?_; rintro e wv ⟨rfl, hbv⟩; have hBv := hBb.trans (hbv.mono hBb.size))
          try go_simp
          refine hK.out _ _ ?_ (fun hHeld => ?_)
          · exact SC.out _ (by assumption)
          clear hK K
          try simp only [Act.put, List.getElem_toArray, List.getElem_cons_succ, List.getElem_cons_zero, List.setIfInBounds_toArray, List.set_cons_zero, List.set_cons_succ]
          refine wpAnyH_ready (rs := [35]) (by kernel_rfl) (by simp) ?_
          refine AllReadyH.cons (o := _) rfl (fun K hK => ?_) AllReadyH.nil
          go_simp
          (go_at_call 21; (with_reducible refine Calls.mono (lift_calls N8.out (w0 := ws) (by assumption)) ?_); rintro e wu ⟨rfl, hBu⟩)
          try go_simp
          refine hK.out _ _ ?_ (fun hHeld => ?_)
          · exact SC.out _ (by assumption)
          clear hK K
          try simp only [Act.put, List.getElem_toArray, List.getElem_cons_succ, List.getElem_cons_zero, List.setIfInBounds_toArray, List.set_cons_zero, List.set_cons_succ]
          refine wpAnyH_take (i := 36) (v := ?vc36) rfl (by kernel_rfl) (by kernel_rfl) (by kernel_rfl) (fun _ _ _ h => h) (Or.inl ⟨by rfl, ?hc36⟩) (by assumption) ?_
          case hc36 => (intro w' hSw; (try dsimp only at hSw); go_simp; try with_reducible rfl)
          try simp only [Act.put, List.getElem_toArray, List.getElem_cons_succ, List.getElem_cons_zero, List.setIfInBounds_toArray, List.set_cons_zero, List.set_cons_succ]
          refine wpAnyH_take (i := 37) (v := ?vc37) rfl (by kernel_rfl) (by kernel_rfl) (by kernel_rfl) (fun _ _ _ h => h) (Or.inl ⟨by rfl, ?hc37⟩) (by assumption) ?_
          case hc37 => (intro w' hSw; (try dsimp only at hSw); go_simp; try with_reducible rfl)
          try simp only [Act.put, List.getElem_toArray, List.getElem_cons_succ, List.getElem_cons_zero, List.setIfInBounds_toArray, List.set_cons_zero, List.set_cons_succ]
          refine wpAnyH_done (by kernel_rfl) ?_ _
          go_wp2
          go_ret
          exact ⟨rfl, FB.out.trans (hBu.mono FB.out.size)⟩
    have hB0 : Below wy.heap.size wy wy.drew := (Below.refl _ _).drew
    have SC : Hid (∀ W, Below wy.heap.size wy W → (W.cell? ⟨g, 0, none⟩ = some (.int .u64 (xa : Int)) ∧ W.cell? ⟨g, 1, none⟩ = some (.int .u64 (xb : Int)) ∧ W.cell? ⟨g, 2, none⟩ = some (.int .u64 (xc : Int)) ∧ W.cell? ⟨g, 3, none⟩ = some (.int .u64 (xd : Int))) ∧ Lw w W g X Y Z X) := hid fun W hW =>
      have h := F15.out.call hW
      ⟨row_words h.1 HEX.out, h⟩
    go_region_held3 (fun W => (W.cell? ⟨g, 0, none⟩ = some (.int .u64 (xa : Int)) ∧ W.cell? ⟨g, 1, none⟩ = some (.int .u64 (xb : Int)) ∧ W.cell? ⟨g, 2, none⟩ = some (.int .u64 (xc : Int)) ∧ W.cell? ⟨g, 3, none⟩ = some (.int .u64 (xd : Int))) ∧ Lw w W g X Y Z X)
      (first
        | exact SC.out _ hB0
        | exact SC.out _ (hB0.alloc (Nat.le_refl _) _)
        | exact SC.out _ hB1
        | exact SC.out _ (hB1.alloc hB1.size _)
        | exact SC.out _ hB2
        | exact SC.out _ (hB2.alloc hB2.size _)
        | exact SC.out _ (belowRow (hB2.alloc hB2.size _) hB2.size _)
        | exact SC.out _ (belowRow hB2 hB1.size _)
        | exact SC.out _ (belowRow hB2 (Nat.le_refl _) _))
      (first
        | (go_at_call 27; refine (M11.out _).mono ?_; rintro e w1 ⟨rfl, hb1⟩; (first | have hB1 : Below wy.heap.size wy w1 := hB0.trans (hb1.mono (Nat.le_refl _)) | have hB1 : Below wy.heap.size wy w1 := (hB0.alloc (Nat.le_refl _) _).trans (hb1.mono (by simp))); (try (have hz1 := block_below hb1 (by simp) (heap_alloc_new _ _))))
        | (go_at_call 18; refine (M12.out _).mono ?_; rintro e w2 ⟨rfl, hb2⟩; (first | have hB2 : Below wy.heap.size wy w2 := hB1.trans (hb2.mono hB1.size) | have hB2 : Below wy.heap.size wy w2 := (hB1.alloc hB1.size _).trans (hb2.mono (by have := hB1.size; simp; omega))); (first | have hz2 := block_below hb2 (block_lt hz1) hz1 | have hz2 := block_below hb2 (by simp) (heap_alloc_new _ _) | skip); (try (have hst := store_zrun hz2 on)); (try (have hz3 : w2.heap[wy.heap.size]? = some (.cells z4 ET (0, 0)) := hz2)); (try (have hst3 := store_zrun hz3 on)); have hstA := store_zrun (heap_alloc_new w2 (.cells z4 ET)) on))
    all_goals have hgy := block_lt F15.out.2.2.2.1
    all_goals (first
      | exact ⟨rfl, w2.heap.size, (by simp only [Act.put, List.setIfInBounds_toArray, List.set_cons_zero, List.set_cons_succ]), setRow_heap _ _ _ _ _ _ (heap_alloc_new w2 _), Lw.far (F15.out.call (hB2.alloc hB2.size _)) _ _ (Nat.lt_of_lt_of_le hgy hB2.size)⟩
      | exact ⟨rfl, w1.heap.size, (by simp only [Act.put, List.setIfInBounds_toArray, List.set_cons_zero, List.set_cons_succ]), setRow_heap _ _ _ _ _ _ hz2, Lw.far (F15.out.call hB2) _ _ (Nat.lt_of_lt_of_le hgy hB1.size)⟩
      | exact ⟨rfl, wy.heap.size, (by simp only [Act.put, List.setIfInBounds_toArray, List.set_cons_zero, List.set_cons_succ]), setRow_heap _ _ _ _ _ _ hz3, Lw.far (F15.out.call hB2) _ _ hgy⟩)
  go_loopg [13] (min t.toNat 20) (fun gg i wr => ∃ k : Nat, k + gg = (min t.toNat 20) ∧ i = .int .i64 (k : Int) ∧ Lw w wr g X Y Z X)
  case atStart => exact ⟨0, by omega, rfl, HF.out⟩
  case round =>
    clear HF
    obtain ⟨k, hk, rfl, hF⟩ := hrel
    have HF := hid hF; have HK := hid hk
    have hkm : k ≤ (min t.toNat 20) := by omega
    clear hF hk
    by_cases hlt : k < (min t.toNat 20)
    · have hx1 : (k : Int) < t := by omega
      have hx2 : (k : Int) < 20 := by omega
      have hB0 : Below wr.heap.size wr wr.drew := (Below.refl _ _).drew
      have SC : Hid (∀ W, Below wr.heap.size wr W → (W.cell? ⟨g + 1, 0, none⟩ = some (.int .u64 (ya : Int)) ∧ W.cell? ⟨g + 1, 1, none⟩ = some (.int .u64 (yb : Int)) ∧ W.cell? ⟨g + 1, 2, none⟩ = some (.int .u64 (yc : Int)) ∧ W.cell? ⟨g + 1, 3, none⟩ = some (.int .u64 (yd : Int))) ∧ (W.cell? ⟨g + 1 + 1, 0, none⟩ = some (.int .u64 (za : Int)) ∧ W.cell? ⟨g + 1 + 1, 1, none⟩ = some (.int .u64 (zb : Int)) ∧ W.cell? ⟨g + 1 + 1, 2, none⟩ = some (.int .u64 (zc : Int)) ∧ W.cell? ⟨g + 1 + 1, 3, none⟩ = some (.int .u64 (zd : Int))) ∧ (W.cell? ⟨g + 1 + 1 + 1, 0, none⟩ = some (.int .u64 (xa : Int)) ∧ W.cell? ⟨g + 1 + 1 + 1, 1, none⟩ = some (.int .u64 (xb : Int)) ∧ W.cell? ⟨g + 1 + 1 + 1, 2, none⟩ = some (.int .u64 (xc : Int)) ∧ W.cell? ⟨g + 1 + 1 + 1, 3, none⟩ = some (.int .u64 (xd : Int))) ∧ Lw w W g X Y Z X) := hid fun W hW =>
        have h := HF.out.call hW
        ⟨row_words h.2.1 HEY.out, row_words h.2.2.1 HEZ.out, row_words h.2.2.2.1 HEX.out, h⟩
      have SE : Hid (∀ W, Lw w W g X Y Z v4 → (W.cell? ⟨g + 1, 0, none⟩ = some (.int .u64 (ya : Int)) ∧ W.cell? ⟨g + 1, 1, none⟩ = some (.int .u64 (yb : Int)) ∧ W.cell? ⟨g + 1, 2, none⟩ = some (.int .u64 (yc : Int)) ∧ W.cell? ⟨g + 1, 3, none⟩ = some (.int .u64 (yd : Int))) ∧ (W.cell? ⟨g + 1 + 1, 0, none⟩ = some (.int .u64 (za : Int)) ∧ W.cell? ⟨g + 1 + 1, 1, none⟩ = some (.int .u64 (zb : Int)) ∧ W.cell? ⟨g + 1 + 1, 2, none⟩ = some (.int .u64 (zc : Int)) ∧ W.cell? ⟨g + 1 + 1, 3, none⟩ = some (.int .u64 (zd : Int))) ∧ (W.cell? ⟨g + 1 + 1 + 1, 0, none⟩ = some (.int .u64 (xa : Int)) ∧ W.cell? ⟨g + 1 + 1 + 1, 1, none⟩ = some (.int .u64 (xb : Int)) ∧ W.cell? ⟨g + 1 + 1 + 1, 2, none⟩ = some (.int .u64 (xc : Int)) ∧ W.cell? ⟨g + 1 + 1 + 1, 3, none⟩ = some (.int .u64 (xd : Int))) ∧ Lw w W g X Y Z X) := hid fun W h => by
        rw [HV4.out] at h
        exact ⟨row_words h.2.1 HEY.out, row_words h.2.2.1 HEZ.out, row_words h.2.2.2.1 HEX.out, h⟩
      clear hlt
      go_wp2_with fail
      go_region_held3 (fun W => (W.cell? ⟨g + 1, 0, none⟩ = some (.int .u64 (ya : Int)) ∧ W.cell? ⟨g + 1, 1, none⟩ = some (.int .u64 (yb : Int)) ∧ W.cell? ⟨g + 1, 2, none⟩ = some (.int .u64 (yc : Int)) ∧ W.cell? ⟨g + 1, 3, none⟩ = some (.int .u64 (yd : Int))) ∧ (W.cell? ⟨g + 1 + 1, 0, none⟩ = some (.int .u64 (za : Int)) ∧ W.cell? ⟨g + 1 + 1, 1, none⟩ = some (.int .u64 (zb : Int)) ∧ W.cell? ⟨g + 1 + 1, 2, none⟩ = some (.int .u64 (zc : Int)) ∧ W.cell? ⟨g + 1 + 1, 3, none⟩ = some (.int .u64 (zd : Int))) ∧ (W.cell? ⟨g + 1 + 1 + 1, 0, none⟩ = some (.int .u64 (xa : Int)) ∧ W.cell? ⟨g + 1 + 1 + 1, 1, none⟩ = some (.int .u64 (xb : Int)) ∧ W.cell? ⟨g + 1 + 1 + 1, 2, none⟩ = some (.int .u64 (xc : Int)) ∧ W.cell? ⟨g + 1 + 1 + 1, 3, none⟩ = some (.int .u64 (xd : Int))) ∧ Lw w W g X Y Z X)
        (first
          | exact SC.out _ (by assumption)
          | exact SE.out _ (by assumption))
        (first
          | (go_at_call 15; (with_reducible refine Calls.mono (lift_calls R4.out (w0 := wr) (by assumption)) ?_); rintro e we ⟨rfl, hBe⟩; have hst := store_run ((HF.out.call hBe).2.2.2.1) v4; have hse := (HF.out.call hBe).set v4)
          | (go_at_call 13; (with_reducible refine Calls.mono (lift_calls R1.out (w0 := wr) (by assumption)) ?_); rintro e wz ⟨rfl, hBz⟩)
          | (go_at_call 15; (with_reducible refine Calls.mono (lift_calls R2.out (w0 := wr) (by assumption)) ?_); rintro e wz ⟨rfl, hBz⟩)
          | (go_at_call 13; (with_reducible refine Calls.mono (lift_calls R3.out (w0 := wr) (by assumption)) ?_); rintro e wz ⟨rfl, hBz⟩))
      have hE := hse
      rw [HV4.out] at hE
      have HE := hid (show Lw w (we.setRow (g + 1 + 1 + 1) (eA v4)) g X Y Z X by rw [HV4.out]; exact hE)
      clear hst hse hE hBe SC SE hB0
      go_wp2
      have hk := HK.out
      go_roundg ((min t.toNat 20) - k - 1)
      case measure => omega
      case rel => exact ⟨k + 1, by omega, by go_num, HE.out⟩
    · have hke : ¬ ((k : Int) < t ∧ k < 20) := by
        rcases Nat.lt_or_ge k 20 with h | h <;> omega
      by_cases hx1 : (k : Int) < t
      · have hx2 : ¬ (k : Int) < 20 := by omega
        clear hlt hke
        go_wp2_with fail
        exact HF.out
      · clear hlt hke
        go_wp2_with fail
        exact HF.out
end Go.Proofs.Ytjchifaclfghaaa
