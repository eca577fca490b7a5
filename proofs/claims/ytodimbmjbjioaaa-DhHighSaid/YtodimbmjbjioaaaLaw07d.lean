/-
  The statement DhHigh: the walk.
-/
import Derived.Test.YtodimbmjbjioaaaLaw07a
import Derived.Test.YtodimbmjbjioaaaLaw07c
namespace Go.Proofs.Ytodimbmjbjioaaa
open Go.RowKit
set_option linter.unusedVariables false
set_option linter.unusedSimpArgs false

theorem xor7 (a b : UInt8) : bits .xor .u8 (a.toNat : Int) (b.toNat : Int) = ((a ^^^ b).toNat : Int) := by
  have ha := a.toNat_lt
  have hb := b.toNat_lt
  rw [UInt8.toNat_xor]
  exact u8_xor_nat _ _ ha hb
def ff32 (k : Nat) : List UInt8 := List.replicate k 255 ++ List.replicate (32 - k) 0
theorem ff32_length (k : Nat) (h : k ≤ 32) : (ff32 k).length = 32 := by unfold ff32; simp; omega
theorem ff32_set (k : Nat) (h : k < 32) : (ff32 k).set k 255 = ff32 (k + 1) := by
  have : ∀ k : Fin 32, (ff32 k.val).set k.val 255 = ff32 (k.val + 1) := by decide +kernel
  exact this ⟨k, h⟩
theorem ff32_p : ((ff32 32).set 0 237).set 31 127 = pB 237 := by decide +kernel
theorem pB_set : (pB 237).set 0 238 = pB 238 := by decide +kernel
/-- A row of cells that reads as bytes, in a block. -/
def Row (w : World) (g : Nat) (ps : List UInt8) : Prop := ∃ cur, w.heap[g]? = some (.cells cur 5 (0, 0)) ∧ ∀ (j : Nat) (v : Value), (bvs ps)[j]? = some v → cur[j]? = some v
theorem Row.below {w w' : World} {g B : Nat} {ps : List UInt8} (h : Row w g ps) (hb : Below B w w') (hg : g < B) : Row w' g ps := by
  obtain ⟨cur, h1, h2⟩ := h
  exact ⟨cur, block_below hb hg h1, h2⟩
theorem Row.set {w : World} {g : Nat} {ps : List UInt8} (h : Row w g ps) (k : Nat) (hk : k < ps.length) (z : UInt8) : Row (w.setCell ⟨g, k, none⟩ (.int .u8 (z.toNat : Int))) g (ps.set k z) := by
  obtain ⟨cur, h1, h2⟩ := h
  exact ⟨_, block_set h1 k _, set_cells h2 k hk z⟩
theorem Row.cell {w : World} {g : Nat} {ps : List UInt8} (h : Row w g ps) (k : Nat) (hk : k < ps.length) : w.cell? ⟨g, k, none⟩ = some (.int .u8 (ps[k].toNat : Int)) ∧ w.frozen? ⟨g, k, none⟩ = false := by
  obtain ⟨cur, h1, h2⟩ := h
  exact ⟨cell_of h1 k _ (h2 k _ (bvs_at ps k hk)), frozen_of_row _ _ _ _ _ h1⟩
theorem Row.sq {w : World} {g c : Nat} {ps : List UInt8} (h : Row w g ps) (h1 : ps.length ≤ c) (h2 : c ≤ 9223372036854775807) : Sq w w.heap.size (some ⟨g, 0, none⟩) c (bvs ps) := by
  obtain ⟨cur, h3, h4⟩ := h
  exact row_sq h3 h4 h1 h2
theorem Row.new (w : World) : Row (w.alloc (.cells zR 5)) w.heap.size (ff32 0) := ⟨zR, heap_alloc_new w _, fun j v h => by unfold zR; simpa [ff32, z32] using h⟩
theorem Row.lt {w : World} {g : Nat} {ps : List UInt8} (h : Row w g ps) : g < w.heap.size := by
  obtain ⟨cur, h1, _⟩ := h
  exact block_lt h1

set_option maxRecDepth 100000 in
set_option maxHeartbeats 4000000 in
theorem high_any (A : Option Addr) (xs : List UInt8) (c : Nat) (A' : Option Addr) (ys : List UInt8) (c' : Nat) (w : World) (hS : Sq w w.heap.size A c (bvs xs)) (hS' : Sq w w.heap.size A' c' (bvs ys)) :
    Calls Try.prog 5 #[.slice A xs.length c, .slice A' ys.length c'] w fun e w' => e = .returned (.bool true) ∧ Below w.heap.size w w' := by
  have HS := hid hS; have HS' := hid hS'
  have HAL := hid alive7_any
  have hmk := mk32
  clear hS hS'
  by_cases hx : xs.length = 32
  · by_cases hy : ys.length = 32
    · obtain ⟨y, hyv⟩ : ∃ y, ys[31]? = some y := ⟨ys[31], List.getElem?_eq_getElem (by omega)⟩
      obtain ⟨z, hz⟩ : ∃ z, z = y ^^^ 128 := ⟨_, rfl⟩
      obtain ⟨hs, hhs⟩ : ∃ hs, hs = ys.set 31 z := ⟨_, rfl⟩
      have hhl : hs.length = 32 := by rw [hhs, List.length_set]; exact hy
      have hhi : dhV xs hs = dhV xs ys := by rw [hhs]; exact dhV_high hy y z hyv hz
      have HMX := hid (fun W A c A' c' h h' => DhMul_e A xs c A' ys c' W h h' (by omega) (by omega) hx hy)
      have HMY := hid (fun W A c A' c' h h' => DhMul_e A xs c A' hs c' W h h' (by omega) (by omega) hx hhl)
      rw [hhi] at HMY
      have HMZ := hid (fun W A c A' c' h h' => DhMul_e A xs c A' (pB 237) c' W h h' (by omega) (by rw [pB_length]; omega) hx (pB_length _))
      rw [dhV_zero xs uF_p] at HMZ
      have HMU := hid (fun W A c A' c' h h' => DhMul_e A xs c A' (pB 238) c' W h h' (by omega) (by rw [pB_length]; omega) hx (pB_length _))
      rw [dhV_p1 xs] at HMU
      have HMV := hid (fun W A c A' c' h h' => DhMul_e A xs c A' (b32 1) c' W h h' (by omega) (by rw [b32_length]; omega) hx (b32_length _))
      obtain ⟨v, hv⟩ : ∃ v, v = dhV xs ys := ⟨_, rfl⟩
      have hvl : v.length = 32 := by rw [hv]; exact dhV_length _ _
      obtain ⟨u, hu⟩ : ∃ u, u = dhV xs (b32 1) := ⟨_, rfl⟩
      have hul : u.length = 32 := by rw [hu]; exact dhV_length _ _
      rw [← hv] at HMX HMY
      rw [← hu] at HMU HMV
      have SV := same32 hvl
      have SU := same32 hul
      have SZ := same32 z32_length
      have SY := same32 hy
      have hxor : bits .xor .u8 (y.toNat : Int) 128 = (z.toNat : Int) := by rw [hz]; exact xor7 y 128
      have HYL := hid hy; have HYV := hid hyv; have HHS := hid hhs; have HHL := hid hhl
      rw [hx, hy]
      clear hhs hz hhi hv hu hvl hul hx hy hyv hhl
      go_enter Try.func5, Try.ntmps5
      go_wp2_with fail
      refine (HAL.out _).mono ?_
      rintro e w1 ⟨rfl, hb1⟩
      have H1 : Hid (Ls w w1 [(A, c, xs), (A', c', ys)]) := hid ⟨⟨HS.out.on6 hb1, HS'.out.on6 hb1, trivial⟩, hb1⟩
      clear hb1 HS HS' HAL
      go_wp2_with (at_builtin; refine wpList_append_lie rfl _ _ 22 rfl w1.heap.size 5 (.int .u8 0) 1 Try.underlying22 infoU8 rfl rfl (erow6 _ _ (k := w1.heap.size) rfl (Nat.le_refl _)) ((bvs_length ys).trans HYL.out) rfl ((H1.out.1.2.1).lie.alloc (Nat.le_refl _) _) (bvs_one ys) ?d1 ?d2 ?d3 ?_)
      case d1 => unfold maxLen; omega
      case d2 => omega
      case d3 => simp
      intro v2 w2 hown2 hg2 hat2
      obtain ⟨A2, c2, rfl, hS2⟩ := own_sl hown2
      have hb2 : Below w1.heap.size w1 w2 := ((Below.refl _ _).alloc (Nat.le_refl _) _).grown hg2 (by simp) (by intro q hq; simp [Value.ownBlock] at hq; omega)
      have H2 := hid (H1.out.made hb2 hS2.sq)
      clear hown2 hg2 hat2 hS2 hb2 H1
      go_wp2_with (at_builtin; refine wpList_append_lie rfl _ _ 22 rfl w2.heap.size 5 (.int .u8 0) 1 Try.underlying22 infoU8 rfl rfl (erow6 _ _ (k := w2.heap.size) rfl (Nat.le_refl _)) ((bvs_length ys).trans HYL.out) rfl ((H2.out.1.2.2.1).lie.alloc (Nat.le_refl _) _) (bvs_one ys) ?e1 ?e2 ?e3 ?_)
      case e1 => unfold maxLen; omega
      case e2 => omega
      case e3 => simp
      intro v3 w3 hown3 hg3 hat3
      obtain ⟨A3, c3, rfl, hS3⟩ := own_sl hown3
      have hb3 : Below w2.heap.size w2 w3 := ((Below.refl _ _).alloc (Nat.le_refl _) _).grown hg3 (by simp) (by intro q hq; simp [Value.ownBlock] at hq; omega)
      have H3 := hid (H2.out.call hb3)
      have HAP3 := hid (H2.out.1.apart (Nat.le_refl _))
      obtain ⟨gh, curh, rfl, hBh, hcurh, hcellsh, hnch, hcmh⟩ := own_parts hown3 (by omega)
      have hRh : Row w3 gh ys := ⟨curh, hcurh, hcellsh⟩
      have hRs := hRh.set 31 (by rw [HYL.out]; omega) z
      rw [← HHS.out] at hRs
      have hc31 : w3.cell? ⟨gh, 31, none⟩ = some (.int .u8 (y.toNat : Int)) := cell_of hcurh 31 _ (hcellsh 31 _ (by have h := HYV.out; unfold bvs; rw [List.getElem?_map, h]; rfl))
      have hf31 : w3.frozen? ⟨gh, 31, none⟩ = false := frozen_of_row _ _ _ _ _ hcurh
      have hb4 : Below w2.heap.size w2 (w3.setCell ⟨gh, 31, none⟩ (.int .u8 (z.toNat : Int))) := hb3.setCell (by simpa using hBh) _
      have H4 := hid (H2.out.made hb4 (hRs.sq (c := c3) (by rw [HHL.out]; exact hnch) hcmh))
      clear hown3 hg3 hat3 hS3 hb3 hb4 H3 H2 HAP3 hRh hRs hcurh hcellsh hnch hcmh hBh
      go_wp2_with fail
      generalize hw4 : w3.setCell ⟨gh, 31, none⟩ (.int .u8 (z.toNat : Int)) = w4 at H4 ⊢
      clear hw4 hc31 hf31 hxor
      refine (HMX.out _ _ _ _ _ H4.out.1.2.2.1 H4.out.1.2.2.2.1).mono ?_
      rintro e wx ⟨Ax, cx, rfl, hSx, hNx, hbx⟩
      have Hx := hid (H4.out.made hbx hSx)
      clear hSx hbx hNx H4
      go_wp2_with fail
      refine (HMY.out _ _ _ _ _ Hx.out.1.2.2.2.1 Hx.out.1.2.1).mono ?_
      rintro e wy ⟨Ay, cy, rfl, hSy, hNy, hby⟩
      have Hy := hid (Hx.out.made hby hSy)
      clear hSy hby hNy Hx
      have HAP := hid (Hy.out.1.apart (Nat.le_refl _))
      have hbp : Below wy.heap.size wy (wy.alloc (.cells zR 5)) := (Below.refl _ _).alloc (Nat.le_refl _) _
      have HR0 := hid (Row.new wy); have HBP := hid hbp
      clear hbp
      obtain ⟨gp, hgp⟩ : ∃ g, g = wy.heap.size := ⟨_, rfl⟩
      rw [← hgp] at HR0 HAP
      have HGP := hid hgp
      have HGE : Hid (wy.heap.size ≤ gp) := hid (Nat.le_of_eq hgp.symm)
      go_wp2
      generalize hwp : wy.alloc (.cells zR 5) = wp at HR0 HBP ⊢
      rw [← hgp]
      clear hwp hgp
      go_loopg [12] 32 (fun g i wr => ∃ k : Nat, k + g = 32 ∧ i = .int .i64 (k : Int) ∧ Row wr gp (ff32 k) ∧ Below wy.heap.size wy wr)
      case atStart => exact ⟨0, rfl, rfl, HR0.out, HBP.out⟩
      case round =>
        clear HR0 HBP
        obtain ⟨k, hk, rfl, hR, hB⟩ := hrel
        obtain ⟨wq, hwq⟩ : ∃ wq, wq = wr := ⟨_, rfl⟩
        rw [← hwq] at hR hB ⊢
        clear hwq
        have hk32 : k ≤ 32 := by omega
        have HK := hid hk; have HB := hid hB
        by_cases hlt : k < 32
        · have hx : (k : Int) < 32 := by omega
          have hk0 : (0 : Int) ≤ (k : Int) := by omega
          obtain ⟨hc, hf⟩ := hR.cell k (by rw [ff32_length k hk32]; exact hlt)
          have hR2 := hR.set k (by rw [ff32_length k hk32]; exact hlt) 255
          rw [ff32_set k hlt] at hR2
          have hB2 := hB.setCell (p := ⟨gp, k, none⟩) HGE.out (.int .u8 ((255 : UInt8).toNat : Int))
          have HR2 : Hid (Row (wq.setCell ⟨gp, k, none⟩ (.int .u8 255)) gp (ff32 (k + 1))) := hid hR2
          have HB2 : Hid (Below wy.heap.size wy (wq.setCell ⟨gp, k, none⟩ (.int .u8 255))) := hid hB2
          clear hR hB hR2 hB2 hk
          go_wp2
          have hk := HK.out
          go_roundg (32 - k - 1)
          case measure => omega
          case rel => exact ⟨k + 1, by omega, by go_num, HR2.out, HB2.out⟩
        · obtain rfl : k = 32 := by omega
          have hx : ¬ ((32 : Nat) : Int) < 32 := by omega
          obtain ⟨hc0, hf0⟩ := hR.cell 0 (by decide)
          have hc0 : wq.cell? ⟨gp, 0, none⟩ = some (.int .u8 255) := hc0
          have hR1 := hR.set 0 (by decide) 237
          obtain ⟨hc1, hf1⟩ := hR1.cell 31 (by decide)
          have hR2 := hR1.set 31 (by decide) 127
          rw [ff32_p] at hR2
          have hc1 : (wq.setCell ⟨gp, 0, none⟩ (.int .u8 237)).cell? ⟨gp, 31, none⟩ = some (.int .u8 255) := hc1
          have hf1 : (wq.setCell ⟨gp, 0, none⟩ (.int .u8 237)).frozen? ⟨gp, 31, none⟩ = false := hf1
          have HR : Hid (Row ((wq.setCell ⟨gp, 0, none⟩ (.int .u8 237)).setCell ⟨gp, 31, none⟩ (.int .u8 127)) gp (pB 237)) := hid hR2
          have HBQ : Hid (Below wy.heap.size wy ((wq.setCell ⟨gp, 0, none⟩ (.int .u8 237)).setCell ⟨gp, 31, none⟩ (.int .u8 127))) := hid ((hB.setCell (p := ⟨gp, 0, none⟩) HGE.out _).setCell (p := ⟨gp, 31, none⟩) HGE.out _)
          have Hp := hid (Hy.out.made HBQ.out (HR.out.sq (c := 32) (by rw [pB_length]; omega) (by omega)))
          clear hR hB hR1 hR2 hk HBQ HB HK
          go_wp2_with fail
          generalize hw5 : (wq.setCell ⟨gp, 0, none⟩ (.int .u8 237)).setCell ⟨gp, 31, none⟩ (.int .u8 127) = w5 at HR Hp ⊢
          clear hw5 hc0 hf0 hc1 hf1
          refine (HMZ.out _ _ _ _ _ Hp.out.1.2.2.2.2.2.1 Hp.out.1.1).mono ?_
          rintro e wz9 ⟨Az9, cz9, rfl, hSz9, hNz9, hbz9⟩
          have Hz9 := hid (Hp.out.made hbz9 hSz9)
          have hRz := HR.out.below hbz9 HR.out.lt
          have hNz := hNz9 gp HR.out.lt
          obtain ⟨hc2, hf2⟩ := hRz.cell 0 (by decide)
          have hc2 : wz9.cell? ⟨gp, 0, none⟩ = some (.int .u8 237) := hc2
          have hR3 := hRz.set 0 (by decide) 238
          rw [pB_set] at hR3
          have h := Hz9.out
          have Hq : Hid (Ls w (wz9.setCell ⟨gp, 0, none⟩ (.int .u8 238)) [(some ⟨gp, 0, none⟩, 32, pB 238), (Az9, cz9, z32), (Ay, cy, v), (Ax, cx, v), (some ⟨gh, 0, none⟩, c3, hs), (A2, c2, ys), (A, c, xs), (A', c', ys)]) := by
            have h1 := Bys.set (g := gp) 0 (.int .u8 238) (l := [(Az9, cz9, z32), (Ay, cy, v), (Ax, cx, v), (some ⟨gh, 0, none⟩, c3, hs), (A2, c2, ys), (A, c, xs), (A', c', ys)]) ⟨h.1.1, h.1.2.2⟩ ⟨hNz, HAP.out⟩
            exact hid ⟨⟨hR3.sq (c := 32) (by rw [pB_length]; omega) (by omega), h1⟩, h.2.setCell (p := ⟨gp, 0, none⟩) (Nat.le_trans Hy.out.2.size HGE.out) _⟩
          clear hSz9 hbz9 hNz9 h hRz hR3 hNz Hz9 Hp HR HAP
          go_wp2_with fail
          generalize hw6 : wz9.setCell ⟨gp, 0, none⟩ (.int .u8 238) = w6 at Hq ⊢
          clear hw6 hc2 hf2
          refine (HMU.out _ _ _ _ _ Hq.out.1.2.2.2.2.2.2.1 Hq.out.1.1).mono ?_
          rintro e wu9 ⟨Au9, cu9, rfl, hSu9, hNu9, hbu9⟩
          have Hu9 := hid (Hq.out.made hbu9 hSu9)
          clear hSu9 hbu9 hNu9 Hq
          obtain ⟨hn0, hn1⟩ : Sq (wu9.alloc (.cells (zR.setIfInBounds 0 (.int .u8 1)) 5)) (wu9.alloc (.cells (zR.setIfInBounds 0 (.int .u8 1)) 5)).heap.size (some ⟨wu9.heap.size, 0, none⟩) 32 (bvs (b32 1)) ∧ Below wu9.heap.size wu9 (wu9.alloc (.cells (zR.setIfInBounds 0 (.int .u8 1)) 5)) := one_sq wu9 1
          obtain ⟨hz0, hz1⟩ := zR_cell wu9 0 (by omega)
          have Hn := hid (Hu9.out.made hn1 hn0)
          clear hn0 hn1 Hu9
          go_wp2_with fail
          generalize hwn : wu9.alloc (.cells (zR.setIfInBounds 0 (.int .u8 1)) 5) = wn at Hn ⊢
          clear hwn hz0 hz1
          refine (HMV.out _ _ _ _ _ Hn.out.1.2.2.2.2.2.2.2.2.1 Hn.out.1.1).mono ?_
          rintro e wv9 ⟨Av9, cv9, rfl, hSv9, hNv9, hbv9⟩
          have Hv9 := hid (Hn.out.made hbv9 hSv9)
          clear hSv9 hbv9 hNv9 Hn
          go_wp2_with fail
          refine (SV.out _ _ _ _ _ _ _ Hv9.out.1.2.2.2.2.2.2.1.lie Hv9.out.1.2.2.2.2.2.1.lie).mono ?_
          rintro e ws10 ⟨rfl, ns1, rfl⟩
          have Hs1 := hid (Hv9.out.drewN ns1)
          generalize hws1 : wv9.drewN ns1 = ws1 at Hs1 ⊢
          clear hws1 Hv9
          have hz0 := zR_sq ws1
          have hz1 : Below ws1.heap.size ws1 (ws1.alloc (.cells zR 5)) := (Below.refl _ _).alloc (Nat.le_refl _) _
          have Hm := hid (Hs1.out.made hz1 hz0)
          clear hz0 hz1 Hs1
          go_wp2_with fail
          generalize hwm : ws1.alloc (.cells zR 5) = wm at Hm ⊢
          clear hwm
          refine (SZ.out _ _ _ _ _ _ _ Hm.out.1.2.2.2.2.2.1.lie Hm.out.1.1.lie).mono ?_
          rintro e ws20 ⟨rfl, ns2, rfl⟩
          have Hs2 := hid (Hm.out.drewN ns2)
          generalize hws2 : wm.drewN ns2 = ws2 at Hs2 ⊢
          clear hws2 Hm
          go_wp2_with fail
          refine (SU.out _ _ _ _ _ _ _ Hs2.out.1.2.2.2.1.lie Hs2.out.1.2.1.lie).mono ?_
          rintro e ws30 ⟨rfl, ns3, rfl⟩
          have Hs3 := hid (Hs2.out.drewN ns3)
          generalize hws3 : ws2.drewN ns3 = ws3 at Hs3 ⊢
          clear hws3 Hs2
          go_wp2_with fail
          refine (SY.out _ _ _ _ _ _ _ Hs3.out.1.2.2.2.2.2.2.2.2.2.2.2.1.lie Hs3.out.1.2.2.2.2.2.2.2.2.2.1.lie).mono ?_
          rintro e ws40 ⟨rfl, ns4, rfl⟩
          have Hs4 := hid (Hs3.out.drewN ns4)
          generalize hws4 : ws3.drewN ns4 = ws4 at Hs4 ⊢
          clear hws4 Hs3
          go_wp2
          go_ret
          exact ⟨rfl, Hs4.out.2⟩
    · have hyn : ((ys.length : Int) != 32) = true := by rw [bne_iff_ne]; omega
      rw [hx]
      clear hy hx
      go_enter Try.func5, Try.ntmps5
      go_wp2_with fail
      refine (HAL.out _).mono ?_
      rintro e w1 ⟨rfl, hb1⟩
      go_wp2
      go_ret
      exact ⟨rfl, hb1⟩
  · have hxn : ((xs.length : Int) != 32) = true := by rw [bne_iff_ne]; omega
    clear hx
    go_enter Try.func5, Try.ntmps5
    go_wp2_with fail
    refine (HAL.out _).mono ?_
    rintro e w1 ⟨rfl, hb1⟩
    go_wp2
    go_ret
    exact ⟨rfl, hb1⟩
end Go.Proofs.Ytodimbmjbjioaaa
