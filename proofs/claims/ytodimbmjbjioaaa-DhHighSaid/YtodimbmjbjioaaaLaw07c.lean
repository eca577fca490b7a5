/-
  The statement DhShares: the walk.
-/
import Derived.Test.YtodimbmjbjioaaaLaw07a
namespace Go.Proofs.Ytodimbmjbjioaaa
open Go.RowKit
set_option linter.unusedVariables false
set_option linter.unusedSimpArgs false

theorem one_sq (W : World) (x : UInt8) : Sq (W.alloc (.cells (zR.setIfInBounds 0 (.int .u8 (x.toNat : Int))) 5)) (W.alloc (.cells (zR.setIfInBounds 0 (.int .u8 (x.toNat : Int))) 5)).heap.size (some ⟨W.heap.size, 0, none⟩) 32 (bvs (b32 x)) ∧ Below W.heap.size W (W.alloc (.cells (zR.setIfInBounds 0 (.int .u8 (x.toNat : Int))) 5)) :=
  have h0 := heap_alloc_new W (.cells (zR.setIfInBounds 0 (.int .u8 (x.toNat : Int))) 5)
  have hc := set_cells (ps := z32) (cur := zR) (fun j v h => by unfold zR; simpa using h) 0 (by decide) x
  ⟨row_sq h0 (fun j v h => hc j v h) (by rw [b32_length]; omega) (by decide), (Below.refl _ _).alloc (Nat.le_refl _) _⟩
theorem zR_cell (W : World) (i : Nat) (hi : i < 32) : (W.alloc (.cells zR 5)).cell? ⟨W.heap.size, i, none⟩ = some (.int .u8 0) ∧ (W.alloc (.cells zR 5)).frozen? ⟨W.heap.size, i, none⟩ = false := by
  have h0 := heap_alloc_new W (.cells zR 5)
  refine ⟨cell_of h0 i _ ?_, frozen_of_row _ _ _ _ _ h0⟩
  have h := bvs_at z32 i hi
  have hz : ∀ (k : Nat) (h : k < z32.length), z32[k] = 0 := by decide
  rw [hz i hi] at h
  unfold zR
  simpa using h

set_option maxRecDepth 100000 in
set_option maxHeartbeats 4000000 in
theorem shares_any (A : Option Addr) (xs : List UInt8) (c : Nat) (A' : Option Addr) (ys : List UInt8) (c' : Nat) (w : World) (hS : Sq w w.heap.size A c (bvs xs)) (hS' : Sq w w.heap.size A' c' (bvs ys)) :
    Calls Try.prog 4 #[.slice A xs.length c, .slice A' ys.length c'] w fun e w' => e = .returned (.bool true) ∧ Below w.heap.size w w' := by
  have HS := hid hS; have HS' := hid hS'
  have HAL := hid alive7_any
  have hmk := mk32
  clear hS hS'
  by_cases hx : xs.length = 32
  · by_cases hy : ys.length = 32
    · have HBA := hid (fun W A c h => DhBase_e A xs c W h (by omega) hx)
      have HBB := hid (fun W A c h => DhBase_e A ys c W h (by omega) hy)
      have hsh := dh_shares xs ys
      have hcl := fun pt => dh_clamped xs pt
      obtain ⟨p, hp⟩ : ∃ p, p = dhV xs (b32 9) := ⟨_, rfl⟩
      obtain ⟨q, hq⟩ : ∃ q, q = dhV ys (b32 9) := ⟨_, rfl⟩
      have hpl : p.length = 32 := by rw [hp]; exact dhV_length _ _
      have hql : q.length = 32 := by rw [hq]; exact dhV_length _ _
      rw [← hp] at HBA
      rw [← hq] at HBB
      have HMN := hid (fun W A c A' c' h h' => DhMul_e A xs c A' (b32 9) c' W h h' (by omega) (by rw [b32_length]; omega) hx (b32_length 9))
      have HMX := hid (fun W A c A' c' h h' => DhMul_e A xs c A' q c' W h h' (by omega) (by omega) hx hql)
      have HMY := hid (fun W A c A' c' h h' => DhMul_e A ys c A' p c' W h h' (by omega) (by omega) hy hpl)
      have HMZ := hid (fun W A c A' c' h h' => DhMul_e A (clampB xs) c A' q c' W h h' (by rw [clampB_length]; omega) (by omega) (clampB_length xs) hql)
      rw [← hp] at HMN
      rw [← hp, ← hq] at hsh
      rw [← hsh] at HMY
      rw [hcl] at HMZ
      obtain ⟨v, hv⟩ : ∃ v, v = dhV xs q := ⟨_, rfl⟩
      have hvl : v.length = 32 := by rw [hv]; exact dhV_length _ _
      rw [← hv] at HMX HMY HMZ
      have HCA := hid (fun W A c h => DhClamp_e A xs c W h (by omega))
      have HCC := hid (fun W A c h => DhClamp_e A (clampB xs) c W h (by rw [clampB_length]; omega))
      rw [clampB_twice, clampB_length] at HCC
      rw [hx] at HCA
      have SP := same32 hpl
      have SV := same32 hvl
      have SC := same32 (clampB_length xs)
      obtain ⟨k, hk⟩ : ∃ k, k = clampB xs := ⟨_, rfl⟩
      rw [← hk] at HCA HCC SC HMZ
      rw [hx, hy]
      clear hp hq hv hk hcl hsh hpl hql hvl hx hy
      go_enter Try.func4, Try.ntmps4
      go_wp2_with fail
      refine (HAL.out _).mono ?_
      rintro e w1 ⟨rfl, hb1⟩
      have H1 : Hid (Ls w w1 [(A, c, xs), (A', c', ys)]) := hid ⟨⟨HS.out.on6 hb1, HS'.out.on6 hb1, trivial⟩, hb1⟩
      clear hb1 HS HS' HAL
      go_wp2_with fail
      refine (HBA.out _ _ _ H1.out.1.1).mono ?_
      rintro e wp ⟨Ap, cp, rfl, hSp, hNp, hbp⟩
      have Hp := hid (H1.out.made hbp hSp)
      clear hSp hbp hNp H1
      go_wp2_with fail
      refine (HBB.out _ _ _ Hp.out.1.2.2.1).mono ?_
      rintro e wq ⟨Aq, cq, rfl, hSq, hNq, hbq⟩
      have Hq := hid (Hp.out.made hbq hSq)
      clear hSq hbq hNq Hp
      obtain ⟨hn0, hn1⟩ : Sq (wq.alloc (.cells (zR.setIfInBounds 0 (.int .u8 9)) 5)) (wq.alloc (.cells (zR.setIfInBounds 0 (.int .u8 9)) 5)).heap.size (some ⟨wq.heap.size, 0, none⟩) 32 (bvs (b32 9)) ∧ Below wq.heap.size wq (wq.alloc (.cells (zR.setIfInBounds 0 (.int .u8 9)) 5)) := one_sq wq 9
      obtain ⟨hz0, hz1⟩ := zR_cell wq 0 (by omega)
      have Hn := hid (Hq.out.made hn1 hn0)
      clear hn0 hn1 Hq
      go_wp2_with fail
      generalize hwn : wq.alloc (.cells (zR.setIfInBounds 0 (.int .u8 9)) 5) = wn at Hn ⊢
      clear hwn hz0 hz1
      refine (HMN.out _ _ _ _ _ Hn.out.1.2.2.2.1 Hn.out.1.1).mono ?_
      rintro e wr ⟨Ar, cr, rfl, hSr, hNr, hbr⟩
      have Hr := hid (Hn.out.made hbr hSr)
      clear hSr hbr hNr Hn
      go_wp2_with fail
      refine (HMX.out _ _ _ _ _ Hr.out.1.2.2.2.2.1 Hr.out.1.2.2.1).mono ?_
      rintro e wx ⟨Ax, cx, rfl, hSx, hNx, hbx⟩
      have Hx := hid (Hr.out.made hbx hSx)
      clear hSx hbx hNx Hr
      go_wp2_with fail
      refine (HMY.out _ _ _ _ _ Hx.out.1.2.2.2.2.2.2.1 Hx.out.1.2.2.2.2.1).mono ?_
      rintro e wy ⟨Ay, cy, rfl, hSy, hNy, hby⟩
      have Hy := hid (Hx.out.made hby hSy)
      clear hSy hby hNy Hx
      go_wp2_with fail
      refine (HCA.out _ _ _ Hy.out.1.2.2.2.2.2.2.1).mono ?_
      rintro e wk1 ⟨Ak1, ck1, rfl, hSk1, hbk1⟩
      have Hk1 := hid (Hy.out.made hbk1 hSk1)
      clear hSk1 hbk1 Hy
      go_wp2_with fail
      refine (HMZ.out _ _ _ _ _ Hk1.out.1.1 Hk1.out.1.2.2.2.2.2.1).mono ?_
      rintro e wz ⟨Az, cz, rfl, hSz, hNz, hbz⟩
      have Hz := hid (Hk1.out.made hbz hSz)
      clear hSz hbz hNz Hk1
      go_wp2_with fail
      refine (SP.out _ _ _ _ _ _ _ Hz.out.1.2.2.2.2.1.lie Hz.out.1.2.2.2.2.2.2.2.1.lie).mono ?_
      rintro e ws10 ⟨rfl, ns1, rfl⟩
      have Hs1 := hid (Hz.out.drewN ns1)
      generalize hws1 : wz.drewN ns1 = ws1 at Hs1 ⊢
      clear hws1 Hz
      go_wp2_with fail
      refine (SV.out _ _ _ _ _ _ _ Hs1.out.1.2.2.2.1.lie Hs1.out.1.2.2.1.lie).mono ?_
      rintro e ws20 ⟨rfl, ns2, rfl⟩
      have Hs2 := hid (Hs1.out.drewN ns2)
      generalize hws2 : ws1.drewN ns2 = ws2 at Hs2 ⊢
      clear hws2 Hs1
      go_wp2_with fail
      refine (SV.out _ _ _ _ _ _ _ Hs2.out.1.2.2.2.1.lie Hs2.out.1.1.lie).mono ?_
      rintro e ws30 ⟨rfl, ns3, rfl⟩
      have Hs3 := hid (Hs2.out.drewN ns3)
      generalize hws3 : ws2.drewN ns3 = ws3 at Hs3 ⊢
      clear hws3 Hs2
      go_wp2_with fail
      refine (HCA.out _ _ _ Hs3.out.1.2.2.2.2.2.2.2.2.1).mono ?_
      rintro e wk2 ⟨Ak2, ck2, rfl, hSk2, hbk2⟩
      have Hk2 := hid (Hs3.out.made hbk2 hSk2)
      clear hSk2 hbk2 Hs3
      go_wp2_with fail
      refine (HCC.out _ _ _ Hk2.out.1.1).mono ?_
      rintro e wk3 ⟨Ak3, ck3, rfl, hSk3, hbk3⟩
      have Hk3 := hid (Hk2.out.made hbk3 hSk3)
      clear hSk3 hbk3 Hk2
      go_wp2_with fail
      refine (HCA.out _ _ _ Hk3.out.1.2.2.2.2.2.2.2.2.2.2.1).mono ?_
      rintro e wk4 ⟨Ak4, ck4, rfl, hSk4, hbk4⟩
      have Hk4 := hid (Hk3.out.made hbk4 hSk4)
      clear hSk4 hbk4 Hk3
      go_wp2_with fail
      refine (SC.out _ _ _ _ _ _ _ Hk4.out.1.2.1.lie Hk4.out.1.1.lie).mono ?_
      rintro e ws40 ⟨rfl, ns4, rfl⟩
      have Hs4 := hid (Hk4.out.drewN ns4)
      generalize hws4 : wk4.drewN ns4 = ws4 at Hs4 ⊢
      clear hws4 Hk4
      go_wp2
      go_ret
      exact ⟨rfl, Hs4.out.2⟩
    · have HBA := hid (fun W h => DhBase_e A xs c W h (by omega) hx)
      have hyn : ((ys.length : Int) != 32) = true := by rw [bne_iff_ne]; omega
      rw [hx]
      clear hy hx
      go_enter Try.func4, Try.ntmps4
      go_wp2_with fail
      refine (HAL.out _).mono ?_
      rintro e w1 ⟨rfl, hb1⟩
      have HS1 := hid (HS.out.on6 hb1); have HB1 := hid hb1
      clear hb1 HS HS' HAL
      go_wp2_with fail
      refine (HBA.out _ HS1.out).mono ?_
      rintro e w2 ⟨A2, c2, rfl, -, -, hb2⟩
      have HB2 := hid (HB1.out.trans (hb2.mono HB1.out.size))
      clear hb2
      go_wp2
      go_ret
      exact ⟨rfl, HB2.out⟩
  · have HBA := hid (fun W h => DhBase_arg A xs c W h hx)
    have hxn : ((xs.length : Int) != 32) = true := by rw [bne_iff_ne]; omega
    have hxe : ((xs.length : Int) == 32) = false := by rw [beq_eq_false_iff_ne]; omega
    clear hx
    go_enter Try.func4, Try.ntmps4
    go_wp2_with fail
    refine (HAL.out _).mono ?_
    rintro e w1 ⟨rfl, hb1⟩
    have HS1 := hid (HS.out.on6 hb1); have HB1 := hid hb1
    clear hb1 HS HS' HAL
    go_wp2_with fail
    refine (HBA.out _ HS1.out).mono ?_
    rintro e w2 ⟨A2, c2, rfl, hb2⟩
    have HB2 := hid (HB1.out.trans (hb2.mono HB1.out.size))
    clear hb2
    go_wp2
    go_ret
    exact ⟨rfl, HB2.out⟩
end Go.Proofs.Ytodimbmjbjioaaa
