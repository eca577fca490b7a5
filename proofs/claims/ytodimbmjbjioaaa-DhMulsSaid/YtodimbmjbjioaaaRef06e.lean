/-
  The document's numbers modulo the prime: the first bytes, and a number's bytes.
-/
import Derived.Test.YtodimbmjbjioaaaRef06d
namespace Go.Proofs.Ytodimbmjbjioaaa
open Go.RowKit
set_option linter.unusedVariables false
set_option linter.unusedSimpArgs false

/-- The highest bit of the 32nd byte cut off. -/
theorem leN_cut (zs : List UInt8) (y : UInt8) (hz : zs.length = 31) : leN (zs ++ [UInt8.ofNat (y.toNat % 128)]) = leN (zs ++ [y]) % 57896044618658097711785492504343953926634992332820282019728792003956564819968 := by
  have hlt := leN_lt zs
  rw [hz] at hlt
  rw [leN_snoc, leN_snoc, hz]
  have hy := y.toNat_lt
  have ho : (UInt8.ofNat (y.toNat % 128)).toNat = y.toNat % 128 := by simp [UInt8.toNat_ofNat']; omega
  rw [ho]
  generalize y.toNat = y at *
  generalize leN zs = z at *
  rw [show (256 : Nat) ^ 31 = 452312848583266388373324160190187140051835877600158453279131187530910662656 by decide +kernel] at *
  omega
theorem leN_short (ys : List UInt8) (h : ys.length < 32) : leN ys % 57896044618658097711785492504343953926634992332820282019728792003956564819968 = leN ys := by
  have h1 := leN_lt ys
  have h2 : 256 ^ ys.length ≤ 256 ^ 31 := Nat.pow_le_pow_right (by omega) (by omega)
  exact Nat.mod_eq_of_lt (Nat.lt_of_lt_of_le (Nat.lt_of_lt_of_le h1 h2) (by decide +kernel))

set_option maxHeartbeats 1000000 in
theorem First_any (A : Option Addr) (xs : List UInt8) (c : Nat) (w : World) (hS : Sq w w.heap.size A c (bvs xs)) (hl : xs.length ≤ 60) :
    Calls Try.prog 18 #[.slice A xs.length c] w (BigR w (ofN xs)) := by
  have HS := hid hS
  have HLen := hid hl
  obtain ⟨V, hV⟩ : ∃ V, V = ofN xs := ⟨_, rfl⟩
  rw [← hV]
  have HV := hid hV
  obtain ⟨n, hn⟩ : ∃ n, n = xs.length := ⟨_, rfl⟩
  have HN := hid hn
  rw [← hn] at hl ⊢
  clear hS hV hn
  go_enter Try.func18, Try.ntmps18
  go_wp2_with (at_builtin; refine wpList_append_lie rfl _ _ 22 rfl w.heap.size 5 (.int .u8 0) 1 Try.underlying22 infoU8 rfl rfl (erow6 _ _ (k := w.heap.size) rfl (Nat.le_refl _)) ((bvs_length xs).trans HN.out.symm) rfl (HS.out.lie.alloc (Nat.le_refl _) _) (bvs_one xs) ?d1 ?d2 ?d3 ?_)
  case d1 => unfold maxLen; omega
  case d2 => omega
  case d3 => simp
  intro v1 w1 hown1 hg1 hat1
  obtain ⟨A1, c1, rfl, hS1⟩ := own_sl hown1
  have hb1 : Below w.heap.size w w1 := ((Below.refl _ _).alloc (Nat.le_refl _) _).grown hg1 (by simp) (by intro q hq; simp [Value.ownBlock] at hq; omega)
  have hcap := hS1.cap
  rw [bvs_length, ← HN.out] at hcap
  have HS1 := hid hS1.sq; have HB1 := hid hb1; have HO1 := hid hown1
  clear hown1 hg1 hat1 hS1 hb1
  by_cases hlt : n < 32
  · have hx1 : ¬ (32 : Int) < (n : Int) := by omega
    have hx2 : ((n : Int) == 32) = false := by rw [beq_eq_false_iff_ne]; omega
    have hof : leN xs % pp = V := by
      have hn := HN.out
      rw [HV.out, ofN, List.take_of_length_le (by omega), leN_short xs (by omega)]
    have OF := hid (Of6_any A1 xs c1 w1 HS1.out (Nat.le_trans HLen.out (by omega)))
    rw [← HN.out] at OF
    have MD := hid (fun A c W h => Mod_any (leN xs) A c W h (by have h := leN_dig xs 0 HLen.out; rw [List.drop_zero] at h; exact Nat.lt_trans h (by decide +kernel)))
    rw [hof] at MD
    clear hof hlt
    go_wp2_with fail
    refine OF.out.mono ?_
    rintro e w2 ⟨A2, c2, rfl, hS2, hb2⟩
    have HS2 := hid hS2; have HB2 := hid (HB1.out.trans (hb2.mono HB1.out.size))
    clear hS2 hb2
    go_wp2_with fail
    refine (MD.out _ _ _ HS2.out).mono ?_
    rintro e w3 ⟨A3, c3, rfl, hS3, hb3⟩
    have HS3 := hid hS3; have HB3 := hid (HB2.out.trans (hb3.mono HB2.out.size))
    clear hS3 hb3
    go_wp2
    go_ret
    exact ⟨A3, c3, rfl, HS3.out, HB3.out⟩
  · obtain ⟨g, cur, rfl, hBg, hcur, hcells, hnc, hcm⟩ := own_parts HO1.out (by omega)
    have h31 : 31 < xs.length := by have := HN.out; omega
    obtain ⟨y, hy⟩ : ∃ y, y = xs[31] := ⟨_, rfl⟩
    obtain ⟨zs, hzs⟩ : ∃ zs, zs = xs.take 31 := ⟨_, rfl⟩
    have hzl : zs.length = 31 := by rw [hzs, List.length_take]; omega
    have ht32 : xs.take 32 = zs ++ [y] := by rw [List.take_succ_eq_append_getElem h31, hzs, hy]
    obtain ⟨y', hy'⟩ : ∃ y', y' = UInt8.ofNat (y.toNat % 128) := ⟨_, rfl⟩
    have hyv : y'.toNat = y.toNat % 128 := by rw [hy']; simp [UInt8.toNat_ofNat']; omega
    have hof : leN (zs ++ [y']) % pp = V := by
      rw [HV.out, ofN, ht32, hy', leN_cut zs y hzl]
    have hc31 : w1.cell? ⟨g, 31, none⟩ = some (.int .u8 (y.toNat : Int)) := cell_of hcur 31 _ (hcells 31 _ (by rw [hy]; exact bvs_at xs 31 h31))
    have hf31 : w1.frozen? ⟨g, 31, none⟩ = false := frozen_of_row _ _ _ _ _ hcur
    have hset := block_set hcur 31 (.int .u8 (y'.toNat : Int))
    have hsq : Sq (w1.setCell ⟨g, 31, none⟩ (.int .u8 (y'.toNat : Int))) (w1.setCell ⟨g, 31, none⟩ (.int .u8 (y'.toNat : Int))).heap.size (some ⟨g, 0, none⟩) c1 (bvs (zs ++ [y'])) := by
      refine row_sq hset (fun j v hj => ?_) (by rw [List.length_append, hzl]; simp; omega) hcm
      have hjl : j < 32 := by
        have := (List.getElem?_eq_some_iff.1 hj).1
        simpa [hzl] using this
      by_cases h31j : j = 31
      · subst h31j
        have hlast : (bvs (zs ++ [y']))[31]? = some (.int .u8 (y'.toNat : Int)) := by
          rw [bvs_append, List.getElem?_append_right (by rw [bvs_length]; omega), bvs_length, hzl]; rfl
        rw [hlast] at hj
        cases hj
        have hcl : 31 < cur.size := by
          have h := hcells 31 _ (bvs_at xs 31 h31)
          exact (Array.getElem?_eq_some_iff.1 h).1
        simp [Array.getElem?_setIfInBounds, hcl]
      · rw [Array.getElem?_setIfInBounds_ne (by omega)]
        refine hcells j v ?_
        rw [← hj, bvs_append, List.getElem?_append_left (by rw [bvs_length]; omega), hzs, bvs, bvs, List.map_take, List.getElem?_take, if_pos (by omega)]
    have hb2 : Below w.heap.size w (w1.setCell ⟨g, 31, none⟩ (.int .u8 (y'.toNat : Int))) := HB1.out.setCell (by simpa using hBg) _
    obtain ⟨w2, hw2⟩ : ∃ w2, w2 = w1.setCell ⟨g, 31, none⟩ (.int .u8 (y'.toNat : Int)) := ⟨_, rfl⟩
    rw [← hw2] at hsq hb2
    have hl32 : (zs ++ [y']).length = 32 := by rw [List.length_append, hzl]; rfl
    have OF := Of6_any (some ⟨g, 0, none⟩) (zs ++ [y']) c1 w2 hsq (by omega)
    rw [hl32, hw2] at OF
    have OF := hid OF
    have MD := hid (fun A c W h => Mod_any (leN (zs ++ [y'])) A c W h (by have h := leN_dig (zs ++ [y']) 0 (by omega); rw [List.drop_zero] at h; exact Nat.lt_trans h (by decide +kernel)))
    rw [hof] at MD
    rw [hw2] at hb2
    have HB2 := hid hb2
    have hyl := y.toNat_lt
    have hr1 : ((y.toNat : Int)).tmod 128 = (y'.toNat : Int) := by rw [Int.tmod_eq_emod_of_nonneg (by omega)]; omega
    have hr2 : (y.toNat : Int) % 128 = (y'.toNat : Int) := by omega
    have hr3 : IntKind.u8.wrap (y'.toNat : Int) = (y'.toNat : Int) := by have := y'.toNat_lt; rw [IntKind.wrap_u8]; omega
    clear hof hy hzs hzl ht32 hy' hyv hset hsq hl32 hw2 hb2 hcells hcur hyl
    by_cases h32 : n = 32
    · have hx1 : ¬ (32 : Int) < (n : Int) := by omega
      have hx2 : ((n : Int) == 32) = true := by rw [beq_iff_eq]; omega
      subst h32
      clear hlt
      go_wp2_with fail
      refine OF.out.mono ?_
      rintro e w2 ⟨A2, c2, rfl, hS2, hb2⟩
      have HS2 := hid hS2; have HB3 := hid (HB2.out.trans (hb2.mono HB2.out.size))
      clear hS2 hb2
      go_wp2_with fail
      refine (MD.out _ _ _ HS2.out).mono ?_
      rintro e w3 ⟨A3, c3, rfl, hS3, hb3⟩
      have HS3 := hid hS3; have HB4 := hid (HB3.out.trans (hb3.mono HB3.out.size))
      clear hS3 hb3
      go_wp2
      go_ret
      exact ⟨A3, c3, rfl, HS3.out, HB4.out⟩
    · have hx1 : (32 : Int) < (n : Int) := by omega
      have hnc1 : (32 : Int) ≤ (c1 : Int) := by omega
      clear hlt h32
      go_wp2_with fail
      refine OF.out.mono ?_
      rintro e w2 ⟨A2, c2, rfl, hS2, hb2⟩
      have HS2 := hid hS2; have HB3 := hid (HB2.out.trans (hb2.mono HB2.out.size))
      clear hS2 hb2
      go_wp2_with fail
      refine (MD.out _ _ _ HS2.out).mono ?_
      rintro e w3 ⟨A3, c3, rfl, hS3, hb3⟩
      have HS3 := hid hS3; have HB4 := hid (HB3.out.trans (hb3.mono HB3.out.size))
      clear hS3 hb3
      go_wp2
      go_ret
      exact ⟨A3, c3, rfl, HS3.out, HB4.out⟩
end Go.Proofs.Ytodimbmjbjioaaa
