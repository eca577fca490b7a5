/-
  The document's points.
-/
import Derived.Test.YtealegfmmeklcaaFFc
import Derived.Test.YtealegfmmeklcaaRef06s
import Derived.Test.YtealegfmmeklcaaCvP
import Derived.Test.YtealegfmmeklcaaCvX
namespace Go.Proofs.Ytealegfmmeklcaa
open Go.RowKit
set_option linter.unusedVariables false
set_option linter.unusedSimpArgs false

theorem dd_quot : (0 - 121665) * FI 121666 = dd := by
  have h := dd_is
  have hi := FF_inv (a := 121666) (by decide +kernel)
  generalize dd = d at *
  generalize FI 121666 = i at *
  grobner
theorem subF0 {b r : FF} (hr : r = 0 - b) : Hid (∀ W A' c', Sq W W.heap.size A' c' (ivs (dg b.val)) → Calls Try.prog 25 #[.slice none 0 0, .slice A' (dg b.val).length c'] W (BigR W r.val)) := hid fun W A' c' h' => by
  have h := (subF hr).out W none 0 A' c' (by rw [show (0 : FF).val = 0 from rfl, dg_zero]; exact Sq.nil) h'
  rw [show (0 : FF).val = 0 from rfl, dg_zero] at h
  exact h
theorem sameF (a b : FF) : Hid (∀ W A c A' c' B B', Sq W B A c (ivs (dg a.val)) → Sq W B' A' c' (ivs (dg b.val)) → Calls Try.prog 19 #[.slice A (dg a.val).length c, .slice A' (dg b.val).length c'] W fun e w' => e = .returned (.bool (decide (a = b))) ∧ ∃ n, w' = W.drewN n) := hid fun W A c A' c' B B' h h' => by
  have h := Same6_any a.val b.val A A' c c' B B' W h h' (Nat.lt_trans a.isLt (by decide +kernel)) (Nat.lt_trans b.isLt (by decide +kernel))
  rw [show decide (a = b) = decide (a.val = b.val) from decide_eq_decide.2 Fin.ext_iff]
  exact h

theorem D9_any (w : World) : Calls Try.prog 50 #[] w (BigR w dd.val) := by
  obtain ⟨n1, hn1⟩ : ∃ r : FF, r = 121665 := ⟨_, rfl⟩
  obtain ⟨n2, hn2⟩ : ∃ r : FF, r = 121666 := ⟨_, rfl⟩
  have N1 : Hid (∀ W, Calls Try.prog 15 #[.int .u64 121665] W (BigR W n1.val)) := numF 121665 (by omega) (by rw [hn1]; decide +kernel)
  have N2 : Hid (∀ W, Calls Try.prog 15 #[.int .u64 121666] W (BigR W n2.val)) := numF 121666 (by omega) (by rw [hn2]; decide +kernel)
  obtain ⟨s1, hs1⟩ : ∃ r : FF, r = 0 - n1 := ⟨_, rfl⟩
  have Cs1 := subF0 hs1
  obtain ⟨iv, hiv⟩ : ∃ r : FF, r = FI n2 := ⟨_, rfl⟩
  have Civ := invF hiv
  obtain ⟨dv, hdv⟩ : ∃ r : FF, r = s1 * iv := ⟨_, rfl⟩
  have Cdv := mulF hdv
  have hd : dv = dd := by rw [hdv, hs1, hiv, hn1, hn2]; exact dd_quot
  rw [← hd]
  clear hd hn1 hn2 hs1 hiv hdv
  go_enter Try.func50, Try.ntmps50
  go_wp2_with fail
  refine (N1.out _).mono ?_
  rintro e wn1 ⟨An1, cn1, rfl, hSn1, hbn1⟩
  have Hn1 : Hid (Ns w wn1 [(An1, cn1, n1.val)]) := hid ⟨⟨hSn1, trivial⟩, hbn1⟩
  clear hSn1 hbn1
  go_wp2_with fail
  refine (Cs1.out _ _ _ Hn1.out.1.1).mono ?_
  rintro e ws1 ⟨As1, cs1, rfl, hSs1, hbs1⟩
  have Hs1 := hid (Hn1.out.made hbs1 hSs1)
  clear hSs1 hbs1 Hn1
  go_wp2_with fail
  refine (N2.out _).mono ?_
  rintro e wn2 ⟨An2, cn2, rfl, hSn2, hbn2⟩
  have Hn2 := hid (Hs1.out.made hbn2 hSn2)
  clear hSn2 hbn2 Hs1
  go_wp2_with fail
  refine (Civ.out _ _ _ Hn2.out.1.1).mono ?_
  rintro e wiv ⟨Aiv, civ, rfl, hSiv, hbiv⟩
  have Hiv := hid (Hn2.out.made hbiv hSiv)
  clear hSiv hbiv Hn2
  go_wp2_with fail
  refine (Cdv.out _ _ _ _ _ Hiv.out.1.2.2.1 Hiv.out.1.1).mono ?_
  rintro e wdv ⟨Adv, cdv, rfl, hSdv, hbdv⟩
  have Hdv := hid (Hiv.out.made hbdv hSdv)
  clear hSdv hbdv Hiv
  go_wp2
  go_ret
  exact ⟨_, _, rfl, Hdv.out.1.1, Hdv.out.2⟩
theorem Square9_any (y : FF) (A : Option Addr) (c : Nat) (w : World) (hS : Sq w w.heap.size A c (ivs (dg y.val))) : Calls Try.prog 16 #[.slice A (dg y.val).length c] w (BigR w (sqX y).val) := by
  have Hy := hid (Ns.start hS)
  obtain ⟨one, hone⟩ : ∃ r : FF, r = 1 := ⟨_, rfl⟩
  have N1 : Hid (∀ W, Calls Try.prog 15 #[.int .u64 1] W (BigR W one.val)) := numF 1 (by omega) (by rw [hone]; decide +kernel)
  have CD := hid D9_any
  obtain ⟨dq, hdq⟩ : ∃ r : FF, r = dd := ⟨_, rfl⟩
  rw [← hdq] at CD
  obtain ⟨yy, hyy⟩ : ∃ r : FF, r = y * y := ⟨_, rfl⟩
  have Cyy := mulF hyy
  obtain ⟨s1, hs1⟩ : ∃ r : FF, r = yy - one := ⟨_, rfl⟩
  have Cs1 := subF hs1
  obtain ⟨m1, hm1⟩ : ∃ r : FF, r = dq * yy := ⟨_, rfl⟩
  have Cm1 := mulF hm1
  obtain ⟨a1, ha1⟩ : ∃ r : FF, r = m1 + one := ⟨_, rfl⟩
  have Ca1 := addF ha1
  obtain ⟨iv, hiv⟩ : ∃ r : FF, r = FI a1 := ⟨_, rfl⟩
  have Civ := invF hiv
  obtain ⟨r9, hr9⟩ : ∃ r : FF, r = s1 * iv := ⟨_, rfl⟩
  have Cr9 := mulF hr9
  have hr : sqX y = r9 := by unfold sqX; rw [hr9, hiv, ha1, hm1, hs1, hyy, hone, hdq]
  rw [hr]
  clear hr hr9 hiv ha1 hm1 hs1 hyy hone hdq hS
  go_enter Try.func16, Try.ntmps16
  go_wp2_with fail
  refine (Cyy.out _ _ _ _ _ Hy.out.1.1 Hy.out.1.1).mono ?_
  rintro e wyy ⟨Ayy, cyy, rfl, hSyy, hbyy⟩
  have Hyy := hid (Hy.out.made hbyy hSyy)
  clear hSyy hbyy Hy
  go_wp2_with fail
  refine (N1.out _).mono ?_
  rintro e wone ⟨Aone, cone, rfl, hSone, hbone⟩
  have Hone := hid (Hyy.out.made hbone hSone)
  clear hSone hbone Hyy
  go_wp2_with fail
  refine (Cs1.out _ _ _ _ _ Hone.out.1.2.1 Hone.out.1.1).mono ?_
  rintro e ws1 ⟨As1, cs1, rfl, hSs1, hbs1⟩
  have Hs1 := hid (Hone.out.made hbs1 hSs1)
  clear hSs1 hbs1 Hone
  go_wp2_with fail
  refine (CD.out _).mono ?_
  rintro e wdq ⟨Adq, cdq, rfl, hSdq, hbdq⟩
  have Hdq := hid (Hs1.out.made hbdq hSdq)
  clear hSdq hbdq Hs1
  go_wp2_with fail
  refine (Cm1.out _ _ _ _ _ Hdq.out.1.1 Hdq.out.1.2.2.2.1).mono ?_
  rintro e wm1 ⟨Am1, cm1, rfl, hSm1, hbm1⟩
  have Hm1 := hid (Hdq.out.made hbm1 hSm1)
  clear hSm1 hbm1 Hdq
  go_wp2_with fail
  refine (Ca1.out _ _ _ _ _ Hm1.out.1.1 Hm1.out.1.2.2.2.1).mono ?_
  rintro e wa1 ⟨Aa1, ca1, rfl, hSa1, hba1⟩
  have Ha1 := hid (Hm1.out.made hba1 hSa1)
  clear hSa1 hba1 Hm1
  go_wp2_with fail
  refine (Civ.out _ _ _ Ha1.out.1.1).mono ?_
  rintro e wiv ⟨Aiv, civ, rfl, hSiv, hbiv⟩
  have Hiv := hid (Ha1.out.made hbiv hSiv)
  clear hSiv hbiv Ha1
  go_wp2_with fail
  refine (Cr9.out _ _ _ _ _ Hiv.out.1.2.2.2.2.1 Hiv.out.1.1).mono ?_
  rintro e wr9 ⟨Ar9, cr9, rfl, hSr9, hbr9⟩
  have Hr9 := hid (Hiv.out.made hbr9 hSr9)
  clear hSr9 hbr9 Hiv
  go_wp2
  go_ret
  exact ⟨_, _, rfl, Hr9.out.1.1, Hr9.out.2⟩
theorem Odd9_any (n : Nat) (A : Option Addr) (c B : Nat) (w : World) (hS : Sq w B A c (ivs (dg n))) (hl : (dg n).length ≤ 1000000) : Calls Try.prog 65 #[.slice A (dg n).length c] w fun e w' => e = .returned (.bool (decide (n % 2 = 1))) ∧ Below w.heap.size w w' := by
  by_cases h : n = 0
  · subst h
    have hz : dg 0 = [] := dg_zero
    rw [hz, List.length_nil]
    clear hS hl hz
    go_enter Try.func65, Try.ntmps65
    go_wp2
    go_ret
    exact ⟨rfl, Below.refl _ _⟩
  · have hp := dg_pos n h
    obtain ⟨b, o, rfl, hb, hc⟩ := hS.dig (k := 0) (by rw [hp]; simp)
    have h0 : (dg n).getD 0 0 = n % 32768 := by rw [hp]; rfl
    rw [h0, Nat.add_zero] at hc
    obtain ⟨L, hL⟩ : ∃ L, L = (dg n).length := ⟨_, rfl⟩
    have hLp : 0 < L := by rw [hL, hp]; simp
    rw [← hL] at hl ⊢
    have hLi : (0 : Int) < (L : Int) := by omega
    have hLi2 : (L : Int) ≤ 1000000 := by omega
    obtain ⟨d, hd⟩ : ∃ d, d = n % 32768 := ⟨_, rfl⟩
    rw [← hd] at hc
    obtain ⟨r, hr⟩ : ∃ r, r = d % 2 := ⟨_, rfl⟩
    have ht1 : ((d : Int)).tmod 2 = (r : Int) := by rw [Int.tmod_eq_emod_of_nonneg (by omega)]; omega
    have ht2 : (d : Int) % 2 = (r : Int) := by omega
    have ht3 : IntKind.i64.wrap (r : Int) = (r : Int) := IntWalk.i64_in _ (by omega)
    have hrn : r = n % 2 := by omega
    rw [← hrn]
    have hbe : ((r : Int) == 1) = decide (r = 1) := by
      by_cases h1 : r = 1
      · subst h1; rfl
      · rw [decide_eq_false h1, beq_eq_false_iff_ne]; omega
    clear hS hp h0 hL hLp hd hr hrn h hl hb
    go_enter Try.func65, Try.ntmps65
    go_wp2
    go_ret
    exact ⟨rfl, Below.refl _ _⟩

abbrev TP : TypeId := 49
theorem infoP : (Try.prog.info? 49).map (·.size) = some 2 := by kernel_rfl
/-- A point of the document. -/
abbrev ptA (A : Option Addr) (c : Nat) (x : FF) (A' : Option Addr) (c' : Nat) (y : FF) : Array Value := #[.slice A (dg x.val).length c, .slice A' (dg y.val).length c']
set_option maxHeartbeats 1000000 in
theorem On9_any (x y : FF) (A : Option Addr) (c : Nat) (A' : Option Addr) (c' : Nat) (w : World) (hS : Sq w w.heap.size A c (ivs (dg x.val))) (hS' : Sq w w.heap.size A' c' (ivs (dg y.val))) : Calls Try.prog 26 #[.agg (ptA A c x A' c' y)] w fun e w' => e = .returned (.bool (decide (y * y - x * x = 1 + dd * (x * x * (y * y))))) ∧ Below w.heap.size w w' := by
  obtain ⟨one, hone⟩ : ∃ r : FF, r = 1 := ⟨_, rfl⟩
  have N1 : Hid (∀ W, Calls Try.prog 15 #[.int .u64 1] W (BigR W one.val)) := numF 1 (by omega) (by rw [hone]; decide +kernel)
  have CD := hid D9_any
  obtain ⟨dq, hdq⟩ : ∃ r : FF, r = dd := ⟨_, rfl⟩
  rw [← hdq] at CD
  obtain ⟨xx, hxx⟩ : ∃ r : FF, r = x * x := ⟨_, rfl⟩
  have Cxx := mulF hxx
  obtain ⟨yy, hyy⟩ : ∃ r : FF, r = y * y := ⟨_, rfl⟩
  have Cyy := mulF hyy
  obtain ⟨s1, hs1⟩ : ∃ r : FF, r = yy - xx := ⟨_, rfl⟩
  have Cs1 := subF hs1
  obtain ⟨m1, hm1⟩ : ∃ r : FF, r = xx * yy := ⟨_, rfl⟩
  have Cm1 := mulF hm1
  obtain ⟨m2, hm2⟩ : ∃ r : FF, r = dq * m1 := ⟨_, rfl⟩
  have Cm2 := mulF hm2
  obtain ⟨a1, ha1⟩ : ∃ r : FF, r = one + m2 := ⟨_, rfl⟩
  have Ca1 := addF ha1
  have CS := sameF s1 a1
  rw [show decide (y * y - x * x = 1 + dd * (x * x * (y * y))) = decide (s1 = a1) by rw [hs1, ha1, hm2, hm1, hxx, hyy, hone, hdq]]
  clear ha1 hm2 hm1 hs1 hxx hyy hone hdq
  have hB0 : Below (w.alloc (.cells (ptA A c x A' c' y) TP)).heap.size (w.alloc (.cells (ptA A c x A' c' y) TP)) (w.alloc (.cells (ptA A c x A' c' y) TP)).drew := (Below.refl _ _).drew
  have SC : Hid (∀ W, Below (w.alloc (.cells (ptA A c x A' c' y) TP)).heap.size (w.alloc (.cells (ptA A c x A' c' y) TP)) W → W.cell? ⟨w.heap.size, 0, none⟩ = some (.slice A (dg x.val).length c) ∧ W.cell? ⟨w.heap.size, 1, none⟩ = some (.slice A' (dg y.val).length c')) := hid fun W hW =>
    have h := block_below hW (by simp) (heap_alloc_new w (.cells (ptA A c x A' c' y) TP))
    ⟨cell_of h 0 _ rfl, cell_of h 1 _ rfl⟩
  have hN : Ns w (w.alloc (.cells (ptA A c x A' c' y) TP)) [(A, c, x.val), (A', c', y.val)] := Ns.call ⟨⟨hS, hS', trivial⟩, Below.refl _ _⟩ ((Below.refl _ _).alloc (Nat.le_refl _) _)
  have H0 := hid hN
  have SX : Hid (∀ W, Below (w.alloc (.cells (ptA A c x A' c' y) TP)).heap.size (w.alloc (.cells (ptA A c x A' c' y) TP)) W → Sq W W.heap.size A c (ivs (dg x.val)) ∧ Sq W W.heap.size A' c' (ivs (dg y.val))) := hid fun W hW => ⟨(hN.call hW).1.1, (hN.call hW).1.2.1⟩
  clear hN hS hS'
  go_enter Try.func26, Try.ntmps26
  go_wp2_with fail
  go_region_held3 (fun W => W.cell? ⟨w.heap.size, 0, none⟩ = some (.slice A (dg x.val).length c) ∧ W.cell? ⟨w.heap.size, 1, none⟩ = some (.slice A' (dg y.val).length c'))
    (first
      | exact SC.out _ (by assumption))
    (first
      | (go_at_call 47; (with_reducible refine Calls.mono (Cxx.out _ _ _ _ _ (SX.out _ hB0).1 (SX.out _ hB0).1) ?_); rintro e wxx ⟨Axx, cxx, rfl, hSxx, hbxx⟩; have hBxx := hB0.trans (hbxx.mono hB0.size))
      | (go_at_call 47; (with_reducible refine Calls.mono (Cyy.out _ _ _ _ _ (SX.out _ hBxx).2 (SX.out _ hBxx).2) ?_); rintro e wyy ⟨Ayy, cyy, rfl, hSyy, hbyy⟩; have hByy := hBxx.trans (hbyy.mono hBxx.size)))
  have Hyy := hid ((H0.out.made hBxx hSxx).made hbyy hSyy)
  clear hSxx hbxx hBxx hSyy hbyy hByy H0 SC SX hB0
  go_wp2_with fail
  refine (Cs1.out _ _ _ _ _ Hyy.out.1.1 Hyy.out.1.2.1).mono ?_
  rintro e ws1 ⟨As1, cs1, rfl, hSs1, hbs1⟩
  have Hs1 := hid (Hyy.out.made hbs1 hSs1)
  clear hSs1 hbs1 Hyy
  go_wp2_with fail
  refine (N1.out _).mono ?_
  rintro e wone ⟨Aone, cone, rfl, hSone, hbone⟩
  have Hone := hid (Hs1.out.made hbone hSone)
  clear hSone hbone Hs1
  go_wp2_with fail
  refine (CD.out _).mono ?_
  rintro e wdq ⟨Adq, cdq, rfl, hSdq, hbdq⟩
  have Hdq := hid (Hone.out.made hbdq hSdq)
  clear hSdq hbdq Hone
  go_wp2_with fail
  refine (Cm1.out _ _ _ _ _ Hdq.out.1.2.2.2.2.1 Hdq.out.1.2.2.2.1).mono ?_
  rintro e wm1 ⟨Am1, cm1, rfl, hSm1, hbm1⟩
  have Hm1 := hid (Hdq.out.made hbm1 hSm1)
  clear hSm1 hbm1 Hdq
  go_wp2_with fail
  refine (Cm2.out _ _ _ _ _ Hm1.out.1.2.1 Hm1.out.1.1).mono ?_
  rintro e wm2 ⟨Am2, cm2, rfl, hSm2, hbm2⟩
  have Hm2 := hid (Hm1.out.made hbm2 hSm2)
  clear hSm2 hbm2 Hm1
  go_wp2_with fail
  refine (Ca1.out _ _ _ _ _ Hm2.out.1.2.2.2.1 Hm2.out.1.1).mono ?_
  rintro e wa1 ⟨Aa1, ca1, rfl, hSa1, hba1⟩
  have Ha1 := hid (Hm2.out.made hba1 hSa1)
  clear hSa1 hba1 Hm2
  go_wp2_with fail
  refine (CS.out _ _ _ _ _ _ _ Ha1.out.1.2.2.2.2.2.1 Ha1.out.1.1).mono ?_
  rintro e wz ⟨rfl, q, rfl⟩
  have HE := hid (belowB_drewN Ha1.out.2 q)
  go_wp2
  go_ret
  exact ⟨rfl, HE.out⟩
set_option maxRecDepth 100000 in
set_option maxHeartbeats 2000000 in
theorem Add9_any (x1 y1 x2 y2 : FF) (A1 B1 A2 B2 : Option Addr) (c1 d1 c2 d2 : Nat) (w : World) (h1 : Sq w w.heap.size A1 c1 (ivs (dg x1.val))) (h2 : Sq w w.heap.size B1 d1 (ivs (dg y1.val))) (h3 : Sq w w.heap.size A2 c2 (ivs (dg x2.val))) (h4 : Sq w w.heap.size B2 d2 (ivs (dg y2.val))) :
    Calls Try.prog 28 #[.agg (ptA A1 c1 x1 B1 d1 y1), .agg (ptA A2 c2 x2 B2 d2 y2)] w fun e w' => ∃ A c A' c', e = .returned (.agg (ptA A c ((Pt.mk x1 y1).add ⟨x2, y2⟩).x A' c' ((Pt.mk x1 y1).add ⟨x2, y2⟩).y)) ∧ Sq w' w'.heap.size A c (ivs (dg ((Pt.mk x1 y1).add ⟨x2, y2⟩).x.val)) ∧ Sq w' w'.heap.size A' c' (ivs (dg ((Pt.mk x1 y1).add ⟨x2, y2⟩).y.val)) ∧ Below w.heap.size w w' := by
  obtain ⟨one, hone⟩ : ∃ r : FF, r = 1 := ⟨_, rfl⟩
  have N1 : Hid (∀ W, Calls Try.prog 15 #[.int .u64 1] W (BigR W one.val)) := numF 1 (by omega) (by rw [hone]; decide +kernel)
  have CD := hid D9_any
  obtain ⟨dq, hdq⟩ : ∃ r : FF, r = dd := ⟨_, rfl⟩
  rw [← hdq] at CD
  obtain ⟨be, hbe⟩ : ∃ r : FF, r = y1 * y2 := ⟨_, rfl⟩
  have Cbe := mulF hbe
  obtain ⟨ac, hac⟩ : ∃ r : FF, r = x1 * x2 := ⟨_, rfl⟩
  have Cac := mulF hac
  obtain ⟨ae, hae⟩ : ∃ r : FF, r = x1 * y2 := ⟨_, rfl⟩
  have Cae := mulF hae
  obtain ⟨bc, hbc⟩ : ∃ r : FF, r = y1 * x2 := ⟨_, rfl⟩
  have Cbc := mulF hbc
  obtain ⟨p9, hp9⟩ : ∃ r : FF, r = be * ac := ⟨_, rfl⟩
  have Cp9 := mulF hp9
  obtain ⟨all, hall⟩ : ∃ r : FF, r = dq * p9 := ⟨_, rfl⟩
  have Call := mulF hall
  obtain ⟨n1, hn1⟩ : ∃ r : FF, r = ae + bc := ⟨_, rfl⟩
  have Cn1 := addF hn1
  obtain ⟨q1, hq1⟩ : ∃ r : FF, r = one + all := ⟨_, rfl⟩
  have Cq1 := addF hq1
  obtain ⟨i1, hi1⟩ : ∃ r : FF, r = FI q1 := ⟨_, rfl⟩
  have Ci1 := invF hi1
  obtain ⟨x3, hx3⟩ : ∃ r : FF, r = n1 * i1 := ⟨_, rfl⟩
  have Cx3 := mulF hx3
  obtain ⟨n2, hn2⟩ : ∃ r : FF, r = be + ac := ⟨_, rfl⟩
  have Cn2 := addF hn2
  obtain ⟨q2, hq2⟩ : ∃ r : FF, r = one - all := ⟨_, rfl⟩
  have Cq2 := subF hq2
  obtain ⟨i2, hi2⟩ : ∃ r : FF, r = FI q2 := ⟨_, rfl⟩
  have Ci2 := invF hi2
  obtain ⟨y3, hy3⟩ : ∃ r : FF, r = n2 * i2 := ⟨_, rfl⟩
  have Cy3 := mulF hy3
  have hal : all = dd * x1 * x2 * y1 * y2 := by
    rw [hall, hp9, hbe, hac, hdq]
    generalize dd = d
    clear hone N1 CD hdq hbe hac hae hbc hp9 hall hn1 hq1 hi1 hx3 hn2 hq2 hi2 hy3 Cbe Cac Cae Cbc Cp9 Call Cn1 Cq1 Ci1 Cx3 Cn2 Cq2 Ci2 Cy3
    grobner
  have hxr : ((Pt.mk x1 y1).add ⟨x2, y2⟩).x = x3 := by
    unfold Pt.add
    rw [hx3, hi1, hq1, hn1, hae, hbc, hal, hone, FF_comm y1 x2]
  have hyr : ((Pt.mk x1 y1).add ⟨x2, y2⟩).y = y3 := by
    unfold Pt.add
    rw [hy3, hi2, hq2, hn2, hbe, hac, hal, hone]
  rw [hxr, hyr]
  clear hal hxr hyr hone hdq hbe hac hae hbc hp9 hall hn1 hq1 hi1 hx3 hn2 hq2 hi2 hy3
  obtain ⟨wa, hwa⟩ : ∃ wa, wa = ((w.alloc (.cells (ptA A1 c1 x1 B1 d1 y1) TP)).alloc (.cells (ptA A2 c2 x2 B2 d2 y2) TP)).alloc (.cells #[.slice none 0 0, .slice none 0 0] TP) := ⟨_, rfl⟩
  have hb0 : Below w.heap.size w wa := by rw [hwa]; exact (((Below.refl _ _).alloc (Nat.le_refl _) _).alloc (by simp) _).alloc (by simp; omega) _
  have hr1 : wa.heap[w.heap.size]? = some (.cells (ptA A1 c1 x1 B1 d1 y1) TP (0, 0)) := by rw [hwa]; exact blkA (blkA (blkN rfl _ _) _) _
  have hr2 : wa.heap[w.heap.size + 1]? = some (.cells (ptA A2 c2 x2 B2 d2 y2) TP (0, 0)) := by rw [hwa]; exact blkA (blkN (by simp) _ _) _
  have hr3 : wa.heap[w.heap.size + 1 + 1]? = some (.cells #[.slice none 0 0, .slice none 0 0] TP (0, 0)) := by rw [hwa]; exact blkN (by simp) _ _
  have SC : Hid (∀ W, Below wa.heap.size wa W → W.cell? ⟨w.heap.size, 0, none⟩ = some (.slice A1 (dg x1.val).length c1) ∧ W.cell? ⟨w.heap.size, 1, none⟩ = some (.slice B1 (dg y1.val).length d1) ∧ W.cell? ⟨(w.heap.size + 1), 0, none⟩ = some (.slice A2 (dg x2.val).length c2) ∧ W.cell? ⟨(w.heap.size + 1), 1, none⟩ = some (.slice B2 (dg y2.val).length d2)) := hid fun W hW =>
    have h1 := block_below hW (block_lt hr1) hr1
    have h2 := block_below hW (block_lt hr2) hr2
    ⟨cell_of h1 0 _ rfl, cell_of h1 1 _ rfl, cell_of h2 0 _ rfl, cell_of h2 1 _ rfl⟩
  have SR : Hid (∀ W, Below wa.heap.size wa W → W.heap[w.heap.size + 1 + 1]? = some (.cells #[.slice none 0 0, .slice none 0 0] TP (0, 0))) := hid fun W hW => block_below hW (block_lt hr3) hr3
  have H0 : Hid (Ns w wa [(A1, c1, x1.val), (B1, d1, y1.val), (A2, c2, x2.val), (B2, d2, y2.val)]) := hid (Ns.call ⟨⟨h1, h2, h3, h4, trivial⟩, Below.refl _ _⟩ hb0)
  have hB0 : Below wa.heap.size wa wa.drew := (Below.refl _ _).drew
  clear hb0 hr1 hr2 hr3 h1 h2 h3 h4
  go_enter Try.func28, Try.ntmps28
  have SX : Hid (∀ W, Below wa.heap.size wa W → Sq W W.heap.size A1 c1 (ivs (dg x1.val)) ∧ Sq W W.heap.size B1 d1 (ivs (dg y1.val)) ∧ Sq W W.heap.size A2 c2 (ivs (dg x2.val)) ∧ Sq W W.heap.size B2 d2 (ivs (dg y2.val))) := hid fun W hW => ⟨(H0.out.call hW).1.1, (H0.out.call hW).1.2.1, (H0.out.call hW).1.2.2.1, (H0.out.call hW).1.2.2.2.1⟩
  go_wp2_with fail
  rw [← hwa]
  clear hwa
  go_region_held3 (fun W => W.cell? ⟨w.heap.size, 0, none⟩ = some (.slice A1 (dg x1.val).length c1) ∧ W.cell? ⟨w.heap.size, 1, none⟩ = some (.slice B1 (dg y1.val).length d1) ∧ W.cell? ⟨(w.heap.size + 1), 0, none⟩ = some (.slice A2 (dg x2.val).length c2) ∧ W.cell? ⟨(w.heap.size + 1), 1, none⟩ = some (.slice B2 (dg y2.val).length d2))
    (first
      | exact SC.out _ (by assumption))
    (first
      | (go_at_call 47; (with_reducible refine Calls.mono (Cbe.out _ _ _ _ _ (SX.out _ hB0).2.1 (SX.out _ hB0).2.2.2) ?_); rintro e wbe ⟨Abe, cbe, rfl, hSbe, hbbe⟩; have hBbe := hB0.trans (hbbe.mono hB0.size))
      | (go_at_call 47; (with_reducible refine Calls.mono (Cac.out _ _ _ _ _ (SX.out _ hBbe).1 (SX.out _ hBbe).2.2.1) ?_); rintro e wac ⟨Aac, cac, rfl, hSac, hbac⟩; have hBac := hBbe.trans (hbac.mono hBbe.size)))
  have Hac := hid ((H0.out.made hBbe hSbe).made hbac hSac)
  clear hSbe hbbe hBbe hSac hbac H0 hB0
  have hB1 : Below wa.heap.size wa wac.drew := hBac.drew
  have hD1 : Below wac.heap.size wac wac.drew := (Below.refl _ _).drew
  clear hBac
  go_wp2_with fail
  go_region_held3 (fun W => W.cell? ⟨w.heap.size, 0, none⟩ = some (.slice A1 (dg x1.val).length c1) ∧ W.cell? ⟨w.heap.size, 1, none⟩ = some (.slice B1 (dg y1.val).length d1) ∧ W.cell? ⟨(w.heap.size + 1), 0, none⟩ = some (.slice A2 (dg x2.val).length c2) ∧ W.cell? ⟨(w.heap.size + 1), 1, none⟩ = some (.slice B2 (dg y2.val).length d2))
    (first
      | exact SC.out _ (by assumption))
    (first
      | (go_at_call 47; (with_reducible refine Calls.mono (Cae.out _ _ _ _ _ (SX.out _ hB1).1 (SX.out _ hB1).2.2.2) ?_); rintro e wae ⟨Aae, cae, rfl, hSae, hbae⟩; have hBae := hB1.trans (hbae.mono hB1.size))
      | (go_at_call 47; (with_reducible refine Calls.mono (Cbc.out _ _ _ _ _ (SX.out _ hBae).2.1 (SX.out _ hBae).2.2.1) ?_); rintro e wbc ⟨Abc, cbc, rfl, hSbc, hbbc⟩; have hBbc := hBae.trans (hbbc.mono hBae.size)))
  have Hbc := hid (((Hac.out.call hD1).made hbae hSae).made hbbc hSbc)
  clear hSae hbae hBae hSbc hbbc Hac hB1 hD1 SX
  have HR := hid (SR.out _ hBbc)
  clear hBbc SR SC
  go_wp2_with fail
  refine (CD.out _).mono ?_
  rintro e wdq ⟨Adq, cdq, rfl, hSdq, hbdq⟩
  have Hdq := hid (Hbc.out.made hbdq hSdq); have HR := hid (block_below hbdq (block_lt HR.out) HR.out)
  clear hSdq hbdq Hbc
  go_wp2_with fail
  refine (Cp9.out _ _ _ _ _ Hdq.out.1.2.2.2.2.1 Hdq.out.1.2.2.2.1).mono ?_
  rintro e wp9 ⟨Ap9, cp9, rfl, hSp9, hbp9⟩
  have Hp9 := hid (Hdq.out.made hbp9 hSp9); have HR := hid (block_below hbp9 (block_lt HR.out) HR.out)
  clear hSp9 hbp9 Hdq
  go_wp2_with fail
  refine (Call.out _ _ _ _ _ Hp9.out.1.2.1 Hp9.out.1.1).mono ?_
  rintro e wall ⟨Aall, call, rfl, hSall, hball⟩
  have Hall := hid (Hp9.out.made hball hSall); have HR := hid (block_below hball (block_lt HR.out) HR.out)
  clear hSall hball Hp9
  go_wp2_with fail
  refine (N1.out _).mono ?_
  rintro e wone ⟨Aone, cone, rfl, hSone, hbone⟩
  have Hone := hid (Hall.out.made hbone hSone); have HR := hid (block_below hbone (block_lt HR.out) HR.out)
  clear hSone hbone Hall
  go_wp2_with fail
  refine (Cn1.out _ _ _ _ _ Hone.out.1.2.2.2.2.2.1 Hone.out.1.2.2.2.2.1).mono ?_
  rintro e wn1 ⟨An1, cn1, rfl, hSn1, hbn1⟩
  have Hn1 := hid (Hone.out.made hbn1 hSn1); have HR := hid (block_below hbn1 (block_lt HR.out) HR.out)
  clear hSn1 hbn1 Hone
  go_wp2_with fail
  refine (Cq1.out _ _ _ _ _ Hn1.out.1.2.1 Hn1.out.1.2.2.1).mono ?_
  rintro e wq1 ⟨Aq1, cq1, rfl, hSq1, hbq1⟩
  have Hq1 := hid (Hn1.out.made hbq1 hSq1); have HR := hid (block_below hbq1 (block_lt HR.out) HR.out)
  clear hSq1 hbq1 Hn1
  go_wp2_with fail
  refine (Ci1.out _ _ _ Hq1.out.1.1).mono ?_
  rintro e wi1 ⟨Ai1, ci1, rfl, hSi1, hbi1⟩
  have Hi1 := hid (Hq1.out.made hbi1 hSi1); have HR := hid (block_below hbi1 (block_lt HR.out) HR.out)
  clear hSi1 hbi1 Hq1
  go_wp2_with fail
  refine (Cx3.out _ _ _ _ _ Hi1.out.1.2.2.1 Hi1.out.1.1).mono ?_
  rintro e wx3 ⟨Ax3, cx3, rfl, hSx3, hbx3⟩
  have Hx3 := hid (Hi1.out.made hbx3 hSx3); have HR := hid (block_below hbx3 (block_lt HR.out) HR.out)
  clear hSx3 hbx3 Hi1
  go_wp2_with fail
  refine (Cn2.out _ _ _ _ _ Hx3.out.1.2.2.2.2.2.2.2.2.2.2.2.1 Hx3.out.1.2.2.2.2.2.2.2.2.2.2.1).mono ?_
  rintro e wn2 ⟨An2, cn2, rfl, hSn2, hbn2⟩
  have Hn2 := hid (Hx3.out.made hbn2 hSn2); have HR := hid (block_below hbn2 (block_lt HR.out) HR.out)
  clear hSn2 hbn2 Hx3
  go_wp2_with fail
  refine (Cq2.out _ _ _ _ _ Hn2.out.1.2.2.2.2.2.1 Hn2.out.1.2.2.2.2.2.2.1).mono ?_
  rintro e wq2 ⟨Aq2, cq2, rfl, hSq2, hbq2⟩
  have Hq2 := hid (Hn2.out.made hbq2 hSq2); have HR := hid (block_below hbq2 (block_lt HR.out) HR.out)
  clear hSq2 hbq2 Hn2
  go_wp2_with fail
  refine (Ci2.out _ _ _ Hq2.out.1.1).mono ?_
  rintro e wi2 ⟨Ai2, ci2, rfl, hSi2, hbi2⟩
  have Hi2 := hid (Hq2.out.made hbi2 hSi2); have HR := hid (block_below hbi2 (block_lt HR.out) HR.out)
  clear hSi2 hbi2 Hq2
  go_wp2_with fail
  refine (Cy3.out _ _ _ _ _ Hi2.out.1.2.2.1 Hi2.out.1.1).mono ?_
  rintro e wy3 ⟨Ay3, cy3, rfl, hSy3, hby3⟩
  have Hy3 := hid (Hi2.out.made hby3 hSy3); have HR := hid (block_below hby3 (block_lt HR.out) HR.out)
  clear hSy3 hby3 Hi2
  have hE := HR.out
  have hB9 := Hy3.out.2
  have hS3 := Hy3.out.1.2.2.2.2.1
  have hS4 := Hy3.out.1.1
  obtain ⟨g, hg⟩ : ∃ g, g = w.heap.size + 1 + 1 := ⟨_, rfl⟩
  have HGW : Hid (w.heap.size ≤ g) := hid (by omega)
  rw [← hg] at hE
  have hc0 : wy3.cell? ⟨g, 0, none⟩ = some (.slice none 0 0) := cell_of hE 0 _ rfl
  have hf0 : wy3.frozen? ⟨g, 0, none⟩ = false := frozen_of_row _ _ _ _ _ hE
  have hE1 : (wy3.setCell ⟨g, 0, none⟩ (.slice Ax3 (dg x3.val).length cx3)).heap[g]? = some (.cells #[.slice Ax3 (dg x3.val).length cx3, .slice none 0 0] TP (0, 0)) := block_set hE 0 _
  have hc1 : (wy3.setCell ⟨g, 0, none⟩ (.slice Ax3 (dg x3.val).length cx3)).cell? ⟨g, 1, none⟩ = some (.slice none 0 0) := cell_of hE1 1 _ rfl
  have hf1 : (wy3.setCell ⟨g, 0, none⟩ (.slice Ax3 (dg x3.val).length cx3)).frozen? ⟨g, 1, none⟩ = false := frozen_of_row _ _ _ _ _ hE1
  have hE2 : ((wy3.setCell ⟨g, 0, none⟩ (.slice Ax3 (dg x3.val).length cx3)).setCell ⟨g, 1, none⟩ (.slice Ay3 (dg y3.val).length cy3)).heap[g]? = some (.cells (ptA Ax3 cx3 x3 Ay3 cy3 y3) TP (0, 0)) := block_set hE1 1 _
  have HB := hid ((hB9.setCell (p := ⟨g, 0, none⟩) HGW.out (.slice Ax3 (dg x3.val).length cx3)).setCell (p := ⟨g, 1, none⟩) HGW.out (.slice Ay3 (dg y3.val).length cy3))
  have HS3 : Hid (Sq ((wy3.setCell ⟨g, 0, none⟩ (.slice Ax3 (dg x3.val).length cx3)).setCell ⟨g, 1, none⟩ (.slice Ay3 (dg y3.val).length cy3)) wy3.heap.size Ax3 cx3 (ivs (dg x3.val))) := hid ((hS3.far (ivs_int _) hE NoInt.two 0 _).far (ivs_int _) hE1 NoInt.two 1 _)
  have HS4 : Hid (Sq ((wy3.setCell ⟨g, 0, none⟩ (.slice Ax3 (dg x3.val).length cx3)).setCell ⟨g, 1, none⟩ (.slice Ay3 (dg y3.val).length cy3)) wy3.heap.size Ay3 cy3 (ivs (dg y3.val))) := hid ((hS4.far (ivs_int _) hE NoInt.two 0 _).far (ivs_int _) hE1 NoInt.two 1 _)
  have HE2 := hid hE2
  clear hE hE1 hE2 hB9 hS3 hS4 HR Hy3
  rw [← hg]
  clear hg
  go_wp2
  refine bodyPost_ret (v := .agg (ptA Ax3 cx3 x3 Ay3 cy3 y3)) (results_cell_row rfl _ _ g TP (ptA Ax3 cx3 x3 Ay3 cy3 y3) (0, 0) _ rfl HE2.out Try.underlying49 rfl infoP) rfl ⟨_, _, _, _, rfl, ?_, ?_, HB.out⟩
  · rw [size_setC, size_setC]; exact HS3.out
  · rw [size_setC, size_setC]; exact HS4.out

set_option maxHeartbeats 1000000 in
theorem Bytes9_any (x y : FF) (A : Option Addr) (c : Nat) (A' : Option Addr) (c' : Nat) (w : World) (hS : Sq w w.heap.size A c (ivs (dg x.val))) (hS' : Sq w w.heap.size A' c' (ivs (dg y.val))) : Calls Try.prog 27 #[.agg (ptA A c x A' c' y)] w fun e w' => ∃ A2 c2, e = .returned (.slice A2 32 c2) ∧ Sq w' w'.heap.size A2 c2 (bvs (ptBytes x y)) ∧ Below w.heap.size w w' := by
  obtain ⟨wa, hwa⟩ : ∃ wa, wa = w.alloc (.cells (ptA A c x A' c' y) TP) := ⟨_, rfl⟩
  have hb0 : Below w.heap.size w wa := by rw [hwa]; exact (Below.refl _ _).alloc (Nat.le_refl _) _
  have hr1 : wa.heap[w.heap.size]? = some (.cells (ptA A c x A' c' y) TP (0, 0)) := by rw [hwa]; exact blkN rfl _ _
  have h0 : wa.cell? ⟨w.heap.size, 1, none⟩ = some (.slice A' (dg y.val).length c') := cell_of hr1 1 _ rfl
  have HS := hid (hS.on6 hb0); have HS' := hid (hS'.on6 hb0); have HB0 := hid hb0; have HR := hid hr1; have HSZ := hid hb0.size
  have BY : Hid (∀ W A c, Sq W W.heap.size A c (ivs (dg y.val)) → Calls Try.prog 18 #[.slice A (dg y.val).length c, .int .i64 32] W fun e w' => ∃ v, e = .returned v ∧ OwnB w' W.heap.size v (leB 32 y.val) ∧ Below W.heap.size W w') := hid fun W A c h =>
    Bytes6_any y.val 32 A c W h (Nat.lt_trans y.isLt (by decide +kernel)) (by omega)
  have OD := hid (fun B W h => Odd9_any x.val A c B W h (Nat.le_trans (dg17 x.val x.isLt) (by omega)))
  have hyl : y.val < 57896044618658097711785492504343953926634992332820282019728792003956564819968 := Nat.lt_trans y.isLt (by decide +kernel)
  obtain ⟨hset, hget, hlt⟩ := leB_high y.val hyl
  have hpb : ptBytes x y = if x.val % 2 = 1 then leB 32 (y.val + 57896044618658097711785492504343953926634992332820282019728792003956564819968) else leB 32 y.val := by
    unfold ptBytes
    rcases Nat.mod_two_eq_zero_or_one x.val with h | h
    · rw [h, if_neg (by omega), Nat.zero_mul, Nat.add_zero]
    · rw [h, if_pos rfl, Nat.one_mul]
  clear hS hS' hb0 hr1 hyl
  go_enter Try.func27, Try.ntmps27
  rw [hwa] at h0
  go_wp2_with fail
  rw [← hwa]
  clear hwa
  refine (BY.out _ _ _ HS'.out).mono ?_
  rintro e w1 ⟨v1, rfl, ho1, hb1⟩
  obtain ⟨A1, c1, rfl, -⟩ := own_sl ho1
  have HO1 : Hid (w1.ownsRow wa.heap.size 5 1 (.slice A1 32 c1) 32 (bvs (leB 32 y.val))) := by
    unfold OwnB at ho1
    rw [leB_length] at ho1
    exact hid ho1
  rw [leB_length]
  have h1 : w1.cell? ⟨w.heap.size, 0, none⟩ = some (.slice A (dg x.val).length c) := cell_of (block_below hb1 (block_lt HR.out) HR.out) 0 _ rfl
  have HS1 := hid (HS.out.on6 hb1); have HB1 := hid (HB0.out.trans (hb1.mono HB0.out.size))
  clear ho1 hb1 HS HS' HB0 HR h0 BY
  go_wp2_with fail
  refine (OD.out _ _ HS1.out).mono ?_
  rintro e w2 ⟨rfl, hb2⟩
  have HO2 := hid (World.ownsRow.kept HO1.out (grownF hb2) (Classical.em _)); have HB2 := hid (HB1.out.trans (hb2.mono HB1.out.size))
  obtain ⟨g, cur, rfl, hg, hcur, hcells, hnc, hcm⟩ := own_parts HO2.out (by omega)
  have hgw : w.heap.size ≤ g := Nat.le_trans HSZ.out hg
  clear hb2 h1 HS1 HB1 HO1
  by_cases hx : x.val % 2 = 1
  · rw [if_pos hx, ← hset] at hpb
    have hdx : decide (x.val % 2 = 1) = true := decide_eq_true hx
    obtain ⟨q, hq⟩ : ∃ q, q = y.val / 256 ^ 31 := ⟨_, rfl⟩
    rw [← hq] at hget hlt hpb
    have hc31 : w2.cell? ⟨g, 31, none⟩ = some (.int .u8 (q : Int)) := cell_of hcur 31 _ (hcells 31 _ (by
      unfold bvs
      rw [List.getElem?_map, hget]
      have : (UInt8.ofNat q).toNat = q := by simp [UInt8.toNat_ofNat']; omega
      rw [Option.map_some, this]))
    have hf31 : w2.frozen? ⟨g, 31, none⟩ = false := frozen_of_row _ _ _ _ _ hcur
    obtain ⟨z, hz⟩ : ∃ z : UInt8, z = UInt8.ofNat (q + 128) := ⟨_, rfl⟩
    have hzv : z.toNat = q + 128 := by rw [hz]; simp [UInt8.toNat_ofNat']; omega
    have hw : IntKind.u8.wrap ((q : Int) + 128) = (z.toNat : Int) := by rw [IntKind.wrap_u8, hzv]; omega
    rw [← hz] at hpb
    have hsq := row_sq (c := c1) (block_set hcur 31 (.int .u8 (z.toNat : Int))) (set_cells hcells 31 (by rw [leB_length]; omega) z) (by rw [List.length_set, leB_length]; omega) hcm
    rw [← hpb] at hsq
    have hbb := HB2.out.setCell (p := ⟨g, 31, none⟩) hgw (.int .u8 (z.toNat : Int))
    have HSQ := hid hsq; have HBB := hid hbb
    clear hsq hbb hcells hcur hz hzv hset hget hlt hq hpb hx
    go_wp2
    go_ret
    exact ⟨_, _, rfl, HSQ.out, HBB.out⟩
  · rw [if_neg hx] at hpb
    have hdx : decide (x.val % 2 = 1) = false := decide_eq_false hx
    have hsq := row_sq (c := c1) hcur hcells (by rw [leB_length]; omega) hcm
    rw [← hpb] at hsq
    have HSQ := hid hsq
    clear hsq hcells hcur hset hget hlt hpb hx
    go_wp2
    go_ret
    exact ⟨_, _, rfl, HSQ.out, HB2.out⟩
end Go.Proofs.Ytealegfmmeklcaa
