/-
  Package dh: keys clamped.
  What the calls of package dh answer.
-/
import Derived.Test.YtodimbmjbjioaaaCopyG
import Derived.Test.YtodimbmjbjioaaaDhS
import Derived.Deep.DeepCutAuto
import Derived.Deep.OwnRows
import Derived.Laws.BitsAllLaws
import Derived.Test.YtodimbmjbjioaaaFldZero
import Derived.Test.YtodimbmjbjioaaaBigB
import Derived.Test.YtodimbmjbjioaaaDh4
namespace Go.Proofs.Ytodimbmjbjioaaa
section
open Go.RowKit
set_option linter.unusedVariables false
set_option linter.unusedSimpArgs false

/-- Zeros, made. -/
def zR : Array Value := (bvs z32).toArray
theorem mk32 (W : World) : (Instr.makeSlice 22 (.int .i64 32) (.int .i64 32)).run Try.prog W = .ok (.slice (some ⟨W.heap.size, 0, none⟩) 32 32) (W.alloc (.cells zR 5)) := by
  have h := run_make_row' (P := Try.prog) 22 5 (.int .u8 0) 1 Try.underlying22 infoU8 rfl .i64 .i64 32 (by omega) (by omega) W
  have hz : madeCells #[Value.int .u8 0] 32 = zR := by
    have e := toList_madeCells_one (Value.int .u8 0) 32
    refine Array.toList_inj.1 ?_
    rw [e]
    rfl
  rw [hz] at h
  exact h
theorem pad32_take (xs : List UInt8) : pad32 xs = xs.take 32 ++ z32.drop (xs.take 32).length := by
  unfold pad32 z32
  rw [List.take_append, List.drop_replicate, List.length_take]
  congr 1
  rw [List.take_replicate]
  congr 1
  omega
theorem splice_z32 (xs : List UInt8) : splice (bvs z32) 0 (bvs (xs.take 32)) = bvs (pad32 xs) := by
  rw [pad32_take]
  simp [splice, bvs, List.map_drop]
theorem and_248 (y : UInt8) : y.toNat &&& 248 = y.toNat / 8 * 8 := by
  have : ∀ z : Fin 256, (z.val &&& 248) = z.val / 8 * 8 := by decide +kernel
  exact this ⟨y.toNat, y.toNat_lt⟩
theorem and_127 (y : UInt8) : y.toNat &&& 127 = y.toNat % 128 := by
  have : ∀ z : Fin 256, (z.val &&& 127) = z.val % 128 := by decide +kernel
  exact this ⟨y.toNat, y.toNat_lt⟩
theorem or_64 (y : UInt8) : (y.toNat % 128) ||| 64 = y.toNat % 64 + 64 := by
  have : ∀ z : Fin 256, ((z.val % 128) ||| 64) = z.val % 64 + 64 := by decide +kernel
  exact this ⟨y.toNat, y.toNat_lt⟩
theorem sizeU8c : (Try.prog.info? 5).map (·.size) = some 1 := by kernel_rfl
set_option maxHeartbeats 1000000 in
theorem DhClamp_e (A : Option Addr) (key : List UInt8) (c : Nat) (w : World) (hS : Sq w w.heap.size A c (bvs key)) (hl : key.length ≤ 1000) :
    Calls Try.prog 8 #[.slice A key.length c] w fun e w' => ∃ A' c', e = .returned (.slice A' 32 c') ∧ Sq w' w'.heap.size A' c' (bvs (clampB key)) ∧ Below w.heap.size w w' := by
  have HM := mk32
  have HB0 : Hid (Below w.heap.size w (w.alloc (.cells zR 5))) := hid ((Below.refl _ _).alloc (Nat.le_refl _) _)
  have hL := ((hS.on6 HB0.out).lie)
  have hrow : (w.alloc (.cells zR 5)).heap[w.heap.size]? = some (.cells (bvs z32).toArray 5 (0, 0)) := heap_alloc_new w _
  have HL := hid hL
  have HROW := hid hrow
  obtain ⟨kv, hkv⟩ : ∃ kv, kv = bvs (key.take 32) := ⟨_, rfl⟩
  have hkl : kv.length = Nat.min key.length 32 := by rw [hkv, bvs_length, List.length_take]; exact Nat.min_comm _ _
  have HKV := hid hkv; have HKL := hid hkl
  clear hL hrow hS hkv hkl
  go_enter Try.func8, Try.ntmps8
  go_wp2_with (first
      | fail
      | (with_reducible refine wpList_copy_grown rfl (.tmp 5) (.tmp 6) _ _ rfl 5 Try.underlying22 sizeU8c _ _ _ _ _ _ rfl rfl w.heap.size 0 (bvs z32) 5 HROW.out kv ?e2 ?e3 ?e4 ?e5 (w.alloc (.cells zR 5)) (World.grownBy.refl _ _) ?_))
  case e2 => exact HKL.out
  case e3 =>
    intro hp
    obtain ⟨ad, rfl, hc⟩ := HL.out.src (by rw [bvs_length]; rw [HKL.out] at hp; have : key.length.min 32 ≤ key.length := Nat.min_le_left _ _; omega)
    refine ⟨ad, rfl, fun j v hv => hc j v ?_⟩
    rw [HKV.out, bvs, List.map_take, List.getElem?_take] at hv
    split at hv
    · exact hv
    · cases hv
  case e4 => rw [HKL.out, bvs_length, z32_length]; have : key.length.min 32 ≤ 32 := Nat.min_le_right _ _; omega
  case e5 => rw [HKV.out]; exact bvs_one _
  intro w2 HW hg2
  have hw2 := HW.out
  rw [HKV.out, splice_z32] at hw2
  have hb2 : Below w.heap.size w w2 := HB0.out.grown hg2 (by simp) (fun q h => by injection h with h; omega)
  obtain ⟨ps, hps⟩ : ∃ ps, ps = pad32 key := ⟨_, rfl⟩
  have hpl : ps.length = 32 := by rw [hps]; exact pad32_length key
  rw [← hps] at hw2
  obtain ⟨y0, hy0⟩ : ∃ y, y = ps[0] := ⟨_, rfl⟩
  obtain ⟨y31, hy31⟩ : ∃ y, y = ps[31] := ⟨_, rfl⟩
  obtain ⟨z0, hz0⟩ : ∃ z, z = UInt8.ofNat (y0.toNat / 8 * 8) := ⟨_, rfl⟩
  obtain ⟨z31, hz31⟩ : ∃ z, z = UInt8.ofNat (y31.toNat % 64 + 64) := ⟨_, rfl⟩
  have hl0 := y0.toNat_lt
  have hl31 := y31.toNat_lt
  have hv0 : z0.toNat = y0.toNat / 8 * 8 := by rw [hz0]; simp [UInt8.toNat_ofNat']; omega
  have hv31 : z31.toNat = y31.toNat % 64 + 64 := by rw [hz31]; simp [UInt8.toNat_ofNat']; omega
  have hcl : clampB key = (ps.set 0 z0).set 31 z31 := by
    unfold clampB
    rw [← hps, hz0, hz31, hy0, hy31, List.getD_eq_getElem?_getD, List.getD_eq_getElem?_getD, List.getElem?_eq_getElem (by omega : 0 < ps.length), List.getElem?_eq_getElem (by omega : 31 < ps.length)]
    simp only [Option.getD_some]
  obtain ⟨g, hg⟩ : ∃ g, g = w.heap.size := ⟨_, rfl⟩
  rw [← hg] at hw2
  have hcp : ∀ (j : Nat) (v : Value), (bvs ps)[j]? = some v → (bvs ps).toArray[j]? = some v := fun j v h => by simpa using h
  have hc0 : w2.cell? ⟨g, 0, none⟩ = some (.int .u8 (y0.toNat : Int)) := cell_of hw2 0 _ (hcp 0 _ (by rw [hy0]; exact bvs_at ps 0 (by omega)))
  have hf0 : w2.frozen? ⟨g, 0, none⟩ = false := frozen_of_row _ _ _ _ _ hw2
  have hset0 := block_set hw2 0 (.int .u8 (z0.toNat : Int))
  have hcs := set_cells hcp 0 (by omega) z0
  have hcs2 := set_cells hcs 31 (by rw [List.length_set]; omega) z31
  have h31 : (ps.set 0 z0)[31]'(by rw [List.length_set]; omega) = y31 := by rw [hy31]; exact List.getElem_set_ne (by omega) _
  have hc31 : (w2.setCell ⟨g, 0, none⟩ (.int .u8 (z0.toNat : Int))).cell? ⟨g, 31, none⟩ = some (.int .u8 (y31.toNat : Int)) := cell_of hset0 31 _ (hcs 31 _ (by rw [bvs_at _ 31 (by rw [List.length_set]; omega), h31]))
  have hf31 : (w2.setCell ⟨g, 0, none⟩ (.int .u8 (z0.toNat : Int))).frozen? ⟨g, 31, none⟩ = false := frozen_of_row _ _ _ _ _ hset0
  have hset1 := block_set hset0 31 (.int .u8 (z31.toNat : Int))
  have hsq : Sq ((w2.setCell ⟨g, 0, none⟩ (.int .u8 (z0.toNat : Int))).setCell ⟨g, 31, none⟩ (.int .u8 (z31.toNat : Int))) ((w2.setCell ⟨g, 0, none⟩ (.int .u8 (z0.toNat : Int))).setCell ⟨g, 31, none⟩ (.int .u8 (z31.toNat : Int))).heap.size (some ⟨g, 0, none⟩) 32 (bvs (clampB key)) := by
    refine row_sq hset1 (fun j v hj => hcs2 j v (by rw [← hcl]; exact hj)) (by rw [clampB_length]; omega) (by omega)
  have hb3 : Below w.heap.size w ((w2.setCell ⟨g, 0, none⟩ (.int .u8 (z0.toNat : Int))).setCell ⟨g, 31, none⟩ (.int .u8 (z31.toNat : Int))) := (hb2.setCell (by simp; omega) _).setCell (by simp; omega) _
  have ha0 : bits .and .u8 (y0.toNat : Int) 248 = (z0.toNat : Int) := by
    have h := u8_and_nat y0.toNat 248 hl0 (by omega)
    rw [and_248, ← hv0] at h
    exact h
  obtain ⟨p, hp⟩ : ∃ p, p = y31.toNat % 128 := ⟨_, rfl⟩
  have ha31 : bits .and .u8 (y31.toNat : Int) 127 = (p : Int) := by
    have h := u8_and_nat y31.toNat 127 hl31 (by omega)
    rw [and_127, ← hp] at h
    exact h
  have ho31 : bits .or .u8 (p : Int) 64 = (z31.toNat : Int) := by
    have h := u8_or_nat p 64 (by omega) (by omega)
    rw [hp, or_64, ← hv31, ← hp] at h
    exact h
  have HSQ := hid hsq; have HB3 := hid hb3; have HG := hid hg
  rw [← hg]
  clear hsq hb3 hb2 hv0 hv31 hl0 hl31 hz0 hz31 hy0 hy31 hset0 hset1 hcs hcs2 h31 hcp hw2 HW hg2 hp hcl hps hpl hg HL HROW HM HKV HKL HB0
  go_wp2_with fail
  go_ret
  exact ⟨_, _, rfl, HSQ.out, HB3.out⟩
end

section
open Go.RowKit
set_option linter.unusedVariables false
set_option linter.unusedSimpArgs false
set_option linter.unusedSectionVars false

/-- Bytes, in memory of their own, and no error. -/
def DhOk (w : World) (v : List UInt8) (e : Ending) (w' : World) : Prop := ∃ A c, e = .returned (.tuple #[.slice A 32 c, .int .u8 0]) ∧ Sq w' w'.heap.size A c (bvs v) ∧ (∀ g, g < w.heap.size → NotIn A (bvs v) g) ∧ Below w.heap.size w w'
/-- An error and no bytes. -/
def DhErr (w : World) (k : Int) (e : Ending) (w' : World) : Prop := ∃ A c, e = .returned (.tuple #[.slice A 0 c, .int .u8 k]) ∧ Below w.heap.size w w'
theorem own32 {w w' : World} {B : Nat} {v : Value} {xs : List UInt8} (h : OwnB w' B v xs) (hl : xs.length = 32) (hB : w.heap.size ≤ B) :
    ∃ A c, v = .slice A 32 c ∧ Sq w' w'.heap.size A c (bvs xs) ∧ ∀ g, g < w.heap.size → NotIn A (bvs xs) g := by
  obtain ⟨A, c, hv, -⟩ := own_sl h
  rw [hl] at hv
  have h' : w'.ownsRow B 5 1 (.slice A 32 c) 32 (bvs xs) := by unfold OwnB at h; rw [hl] at h; rw [← hv]; exact h
  obtain ⟨g, cur, rfl, hg, hcur, hcells, hnc, hcm⟩ := own_parts h' (by omega)
  refine ⟨_, _, hv, row_sq hcur hcells (by omega) hcm, fun k hk hx b o sp e => ?_⟩
  simp only [Option.some.injEq, Addr.mk.injEq] at e
  omega
theorem len_ne {n : Nat} (h : n ≠ 32) : decide ((n : Int) = 32) = false := by rw [decide_eq_false_iff_not]; omega
theorem ofN_dhV (key pt : List UInt8) : ofN (dhV key pt) = (ladOut (uF pt) (leN (clampB key))).val := by
  show (uF (dhV key pt)).val = _
  rw [uF_dhV]
theorem ofN_ne {key pt : List UInt8} (hz : dhV key pt ≠ z32) : ofN (dhV key pt) ≠ 0 := fun h => hz (by
  rw [ofN_dhV] at h
  unfold dhV
  rw [h, leB_zero])
theorem ofN_zero {key pt : List UInt8} (hz : dhV key pt = z32) : ofN (dhV key pt) = 0 := by
  rw [hz]
  show (uF z32).val = 0
  rw [uF_zero]
  rfl
theorem DhOk.on {w w1 w' : World} {v : List UInt8} {e : Ending} (hb : Below w.heap.size w w1) (h : DhOk w1 v e w') : DhOk w v e w' := by
  obtain ⟨A, c, he, hs, hn, hb2⟩ := h
  exact ⟨A, c, he, hs, fun g hg => hn g (Nat.lt_of_lt_of_le hg hb.size), hb.trans (hb2.mono hb.size)⟩
theorem nine_bytes : leB 32 ((9 : FF)).val = b32 9 := by decide +kernel
theorem DhMul_arg0 (A : Option Addr) (key : List UInt8) (c : Nat) (A' : Option Addr) (pt : List UInt8) (c' : Nat) (w : World) (h : key.length ≠ 32) : Calls Try.prog 10 #[.slice A key.length c, .slice A' pt.length c'] w (DhErr w 1) := by
  obtain ⟨n, hn⟩ : ∃ n, n = key.length := ⟨_, rfl⟩
  rw [← hn] at h ⊢
  have hd := len_ne h
  have hi : ¬ (n : Int) = 32 := by omega
  clear hn h
  go_enter Try.func10, Try.ntmps10
  go_wp2_with fail
  go_ret2
  exact ⟨_, _, rfl, Below.refl _ _⟩
section
variable (A : Option Addr) (key : List UInt8) (c : Nat) (A' : Option Addr) (pt : List UInt8) (c' : Nat) (w : World) (hS : Sq w w.heap.size A c (bvs key)) (hS' : Sq w w.heap.size A' c' (bvs pt)) (hl : key.length ≤ 1000) (hl' : pt.length ≤ 1000)
include hS hS' hl hl'
set_option maxHeartbeats 1000000 in
theorem DhMul_e (h : key.length = 32) (h' : pt.length = 32) : Calls Try.prog 10 #[.slice A 32 c, .slice A' 32 c'] w (DhOk w (dhV key pt)) := by
  have CL := fun W hW => DhClamp_e A key c W hW hl
  rw [h] at CL
  have CO := fun W hW => Of_e A' pt c' W hW
  rw [h'] at CO
  have CP : ∀ W A1 c1, Sq W W.heap.size A1 c1 (bvs (clampB key)) → Calls Try.prog 14 #[.slice A1 32 c1, .agg (eA (ofN pt))] W fun e w' => e = .returned (.agg (eF (ladOut (uF pt) (leN (clampB key))))) ∧ Below W.heap.size W w' := fun W A1 c1 hs => by
    have := Product_e (uF pt) A1 (clampB key) c1 W hs (clampB_length key)
    rwa [clampB_length] at this
  have CB := bytesE (ladOut (uF pt) (leN (clampB key)))
  have hV : dhV key pt = leB 32 (ladOut (uF pt) (leN (clampB key))).val := rfl
  obtain ⟨v, hv⟩ : ∃ v, v = ladOut (uF pt) (leN (clampB key)) := ⟨_, rfl⟩
  rw [← hv] at CP CB hV
  rw [hV]
  have HCL := hid CL; have HCO := hid CO; have HCP := hid CP; have HS := hid hS; have HS' := hid hS'
  clear CL CO CP hv hV hS hS' h h' hl hl'
  go_enter Try.func10, Try.ntmps10
  go_wp2_with fail
  refine (HCL.out _ HS.out).mono ?_
  rintro e w1 ⟨A1, c1, rfl, hS1, hb1⟩
  have HS1 := hid hS1; have HB1 := hid hb1; have HS2 := hid (HS'.out.on6 hb1)
  clear hS1 hb1
  go_wp2_with fail
  refine (HCO.out _ HS2.out).mono ?_
  rintro e w2 ⟨rfl, hb2⟩
  have HS3 := hid (HS1.out.on6 hb2); have HB2 := hid (HB1.out.trans (hb2.mono HB1.out.size))
  clear hb2 HB1
  go_wp2_with fail
  refine (HCP.out _ _ _ HS3.out).mono ?_
  rintro e w3 ⟨rfl, hb3⟩
  have HB3 := hid (HB2.out.trans (hb3.mono HB2.out.size))
  clear hb3
  go_wp2_with fail
  refine (CB.out _).mono ?_
  rintro e w4 ⟨x, rfl, ho, hb4⟩
  have HB4 := hid (HB3.out.trans (hb4.mono HB3.out.size))
  obtain ⟨A4, c4, rfl, hS4, hn4⟩ := own32 (w := w) ho (leB_length 32 _) HB3.out.size
  have HS4 := hid hS4; have HN4 := hid hn4
  clear ho hb4 hS4 hn4 HB3
  go_wp2_with fail
  go_ret2
  exact ⟨_, _, rfl, HS4.out, HN4.out, HB4.out⟩
theorem DhMul_arg (h : key.length ≠ 32) : Calls Try.prog 10 #[.slice A key.length c, .slice A' pt.length c'] w (DhErr w 1) := DhMul_arg0 A key c A' pt c' w h
theorem DhMul_form (h : key.length = 32) (h' : pt.length ≠ 32) : Calls Try.prog 10 #[.slice A 32 c, .slice A' pt.length c'] w (DhErr w 3) := by
  obtain ⟨n, hn⟩ : ∃ n, n = pt.length := ⟨_, rfl⟩
  rw [← hn] at h' ⊢
  have hd := len_ne h'
  have hi : ¬ (n : Int) = 32 := by omega
  clear hS hS' hn h'
  go_enter Try.func10, Try.ntmps10
  go_wp2_with fail
  go_ret2
  exact ⟨_, _, rfl, Below.refl _ _⟩
set_option maxHeartbeats 1000000 in
theorem DhShared_e (h : key.length = 32) (h' : pt.length = 32) (hz : dhV key pt ≠ z32) : Calls Try.prog 11 #[.slice A 32 c, .slice A' 32 c'] w (DhOk w (dhV key pt)) := by
  have CM := DhMul_e A key c A' pt c' w hS hS' hl hl' h h'
  have CO := fun A1 c1 W hW => Of_e A1 (dhV key pt) c1 W hW
  rw [dhV_length] at CO
  have hlt : ofN (dhV key pt) < pp := ofN_lt _
  have CZ := fun W => Zero_e (ofN (dhV key pt)) W hlt
  rw [decide_eq_false (ofN_ne hz)] at CZ
  obtain ⟨v, hv⟩ : ∃ v, v = dhV key pt := ⟨_, rfl⟩
  rw [← hv] at CM CO CZ ⊢
  have HCM := hid CM; have HCO := hid CO; have HCZ := hid CZ
  clear CM CO CZ hv hS hS' h h' hl hl' hz hlt
  go_enter Try.func11, Try.ntmps11
  go_wp2_with fail
  refine HCM.out.mono ?_
  rintro e w1 ⟨A1, c1, rfl, hS1, hN1, hb1⟩
  have HS1 := hid hS1; have HB1 := hid hb1; have HN1 := hid hN1
  clear hS1 hb1 hN1
  go_wp2_with fail
  refine (HCO.out _ _ _ HS1.out).mono ?_
  rintro e w2 ⟨rfl, hb2⟩
  have HS2 := hid (HS1.out.on6 hb2); have HB2 := hid (HB1.out.trans (hb2.mono HB1.out.size))
  clear hb2
  go_wp2_with fail
  refine (HCZ.out _).mono ?_
  rintro e w3 ⟨rfl, hb3⟩
  have HS3 := hid (HS2.out.on6 hb3); have HB3 := hid (HB2.out.trans (hb3.mono HB2.out.size))
  clear hb3
  go_wp2_with fail
  go_ret2
  exact ⟨_, _, rfl, HS3.out, HN1.out, HB3.out⟩
set_option maxHeartbeats 1000000 in
theorem DhShared_zero (h : key.length = 32) (h' : pt.length = 32) (hz : dhV key pt = z32) : Calls Try.prog 11 #[.slice A 32 c, .slice A' 32 c'] w (DhErr w 9) := by
  have CM := DhMul_e A key c A' pt c' w hS hS' hl hl' h h'
  have CO := fun A1 c1 W hW => Of_e A1 (dhV key pt) c1 W hW
  rw [dhV_length] at CO
  have hlt : ofN (dhV key pt) < pp := ofN_lt _
  have CZ := fun W => Zero_e (ofN (dhV key pt)) W hlt
  rw [decide_eq_true (ofN_zero hz)] at CZ
  obtain ⟨v, hv⟩ : ∃ v, v = dhV key pt := ⟨_, rfl⟩
  rw [← hv] at CM CO CZ
  have HCM := hid CM; have HCO := hid CO; have HCZ := hid CZ
  clear CM CO CZ hv hS hS' h h' hl hl' hz hlt
  go_enter Try.func11, Try.ntmps11
  go_wp2_with fail
  refine HCM.out.mono ?_
  rintro e w1 ⟨A1, c1, rfl, hS1, hN1, hb1⟩
  have HS1 := hid hS1; have HB1 := hid hb1
  clear hS1 hb1 hN1
  go_wp2_with fail
  refine (HCO.out _ _ _ HS1.out).mono ?_
  rintro e w2 ⟨rfl, hb2⟩
  have HB2 := hid (HB1.out.trans (hb2.mono HB1.out.size))
  clear hb2
  go_wp2_with fail
  refine (HCZ.out _).mono ?_
  rintro e w3 ⟨rfl, hb3⟩
  have HB3 := hid (HB2.out.trans (hb3.mono HB2.out.size))
  clear hb3
  go_wp2_with fail
  go_ret2
  exact ⟨_, _, rfl, HB3.out⟩
theorem DhShared_arg (h : key.length ≠ 32) : Calls Try.prog 11 #[.slice A key.length c, .slice A' pt.length c'] w (DhErr w 1) := by
  have HCM := hid (DhMul_arg A key c A' pt c' w hS hS' hl hl' h)
  clear hS hS' h hl hl'
  go_enter Try.func11, Try.ntmps11
  go_wp2_with fail
  refine HCM.out.mono ?_
  rintro e w1 ⟨A1, c1, rfl, hb1⟩
  have HB1 := hid hb1
  clear hb1
  go_wp2_with fail
  go_ret2
  exact ⟨_, _, rfl, HB1.out⟩
theorem DhShared_form (h : key.length = 32) (h' : pt.length ≠ 32) : Calls Try.prog 11 #[.slice A 32 c, .slice A' pt.length c'] w (DhErr w 3) := by
  have HCM := hid (DhMul_form A key c A' pt c' w hS hS' hl hl' h h')
  clear hS hS' h hl hl' h'
  go_enter Try.func11, Try.ntmps11
  go_wp2_with fail
  refine HCM.out.mono ?_
  rintro e w1 ⟨A1, c1, rfl, hb1⟩
  have HB1 := hid hb1
  clear hb1
  go_wp2_with fail
  go_ret2
  exact ⟨_, _, rfl, HB1.out⟩
omit hS' hl'
set_option maxHeartbeats 1000000 in
theorem DhBase_e (h : key.length = 32) : Calls Try.prog 13 #[.slice A 32 c] w (DhOk w (dhV key (b32 9))) := by
  have CN := numE 9 (r := (9 : FF)) (by omega) (by decide +kernel)
  have CB := bytesE (9 : FF)
  rw [nine_bytes] at CB
  have CM := fun A1 c1 W (h1 : Sq W W.heap.size A c (bvs key)) (h2 : Sq W W.heap.size A1 c1 (bvs (b32 9))) => DhMul_e A key c A1 (b32 9) c1 W h1 h2 hl (by rw [b32_length]; omega) h (b32_length 9)
  obtain ⟨nine, hn⟩ : ∃ x : FF, x = 9 := ⟨_, rfl⟩
  rw [← hn] at CN CB
  obtain ⟨b9, hb9⟩ : ∃ x, x = b32 9 := ⟨_, rfl⟩
  have hbl : b9.length = 32 := by rw [hb9]; exact b32_length 9
  rw [← hb9] at CM CB ⊢
  have HCM := hid CM; have HBL := hid hbl; have HS := hid hS
  clear CM hn hb9 hbl hS hl h
  go_enter Try.func13, Try.ntmps13
  go_wp2_with fail
  refine (CN.out _).mono ?_
  rintro e w1 ⟨rfl, hb1⟩
  have HB1 := hid hb1; have HS1 := hid (HS.out.on6 hb1)
  clear hb1
  go_wp2_with fail
  refine (CB.out _).mono ?_
  rintro e w2 ⟨x, rfl, ho, hb2⟩
  obtain ⟨A4, c4, rfl, hS4, hn4⟩ := own32 (w := w) ho HBL.out HB1.out.size
  have HS4 := hid hS4; have HS2 := hid (HS1.out.on6 hb2); have HB2 := hid (HB1.out.trans (hb2.mono HB1.out.size))
  clear ho hb2 hS4 hn4
  go_wp2_with fail
  refine (HCM.out _ _ _ HS2.out HS4.out).mono ?_
  intro e w3 hok
  obtain ⟨A5, c5, rfl, hS5, hN5, hb5⟩ := DhOk.on HB2.out hok
  have HS5 := hid hS5; have HN5 := hid hN5; have HB5 := hid hb5
  clear hok hS5 hN5 hb5
  go_wp2_with fail
  go_ret2
  exact ⟨_, _, rfl, HS5.out, HN5.out, HB5.out⟩
omit hl
set_option maxHeartbeats 1000000 in
theorem DhBase_arg (h : key.length ≠ 32) : Calls Try.prog 13 #[.slice A key.length c] w (DhErr w 1) := by
  have CN := numE 9 (r := (9 : FF)) (by omega) (by decide +kernel)
  have CB := bytesE (9 : FF)
  rw [nine_bytes] at CB
  have CM := fun A1 c1 W (h1 : Sq W W.heap.size A c (bvs key)) (h2 : Sq W W.heap.size A1 c1 (bvs (b32 9))) => DhMul_arg0 A key c A1 (b32 9) c1 W h
  rw [b32_length] at CM
  obtain ⟨nine, hn⟩ : ∃ x : FF, x = 9 := ⟨_, rfl⟩
  rw [← hn] at CN CB
  obtain ⟨b9, hb9⟩ : ∃ x, x = b32 9 := ⟨_, rfl⟩
  have hbl : b9.length = 32 := by rw [hb9]; exact b32_length 9
  rw [← hb9] at CM CB
  have HCM := hid CM; have HBL := hid hbl; have HS := hid hS
  clear CM hn hb9 hbl hS h
  go_enter Try.func13, Try.ntmps13
  go_wp2_with fail
  refine (CN.out _).mono ?_
  rintro e w1 ⟨rfl, hb1⟩
  have HB1 := hid hb1; have HS1 := hid (HS.out.on6 hb1)
  clear hb1
  go_wp2_with fail
  refine (CB.out _).mono ?_
  rintro e w2 ⟨x, rfl, ho, hb2⟩
  obtain ⟨A4, c4, rfl, hS4, hn4⟩ := own32 (w := w) ho HBL.out HB1.out.size
  have HS4 := hid hS4; have HS2 := hid (HS1.out.on6 hb2); have HB2 := hid (HB1.out.trans (hb2.mono HB1.out.size))
  clear ho hb2 hS4 hn4
  go_wp2_with fail
  refine (HCM.out _ _ _ HS2.out HS4.out).mono ?_
  rintro e w3 ⟨A5, c5, rfl, hb5⟩
  have HB5 := hid (HB2.out.trans (hb5.mono HB2.out.size))
  clear hb5
  go_wp2_with fail
  go_ret2
  exact ⟨_, _, rfl, HB5.out⟩
end
end
end Go.Proofs.Ytodimbmjbjioaaa
