/-
  Package long: the digest behind the whole blocks.
-/
import Derived.Test.YtokggppfobbblaaDoorLon5
namespace Go.Proofs.YtokggppfobbblaaDoor
open Go.RowKit
set_option linter.unusedVariables false
set_option linter.unusedSimpArgs false

abbrev A64B : TypeId := 30
theorem info64B : (Tryd.prog.info? 30).map (·.size) = some 64 := by kernel_rfl
/-- The array when k words are laid. -/
def dL (s : St) (k : Nat) : Array Value := (bvs (s.bytesToL k) ++ List.replicate (64 - 8 * k) (Value.int .u8 0)).toArray
theorem dL_zero (s : St) : dL s 0 = (List.replicate 64 (Value.int .u8 0)).toArray := by simp [dL, St.bytesToL, bvs]
theorem dL_end (s : St) : dL s 8 = byA s.bytesL := by simp [dL, byA, St.bytesToL_end]
theorem dL_size (s : St) (k : Nat) (h : k ≤ 8) : (dL s k).size = 64 := by
  simp [dL, St.bytesToL_length s k h]; omega
theorem dL_next (s : St) (k x : Nat) (hk : k < 8) (hx : s.list[k]? = some x) :
    ((dL s k).toList.take (8 * k) ++ (bvs (beBytes 8 x) ++ (dL s k).toList.drop (8 * k + (bvs (beBytes 8 x)).length))).toArray = dL s (k + 1) := by
  have h1 : 64 - 8 * k = 8 + (64 - 8 * (k + 1)) := by omega
  have hl := St.bytesToL_length s k (by omega)
  rw [dL, dL, St.bytesToL_succ s k x hx, h1]
  simp only [bvs_append]
  congr 1
  have hl2 : (bvs (s.bytesToL k)).length = 8 * k := by simp [hl]
  generalize bvs (s.bytesToL k) = P at hl2 ⊢
  have hl3 : (bvs (beBytes 8 x)).length = 8 := by simp
  generalize bvs (beBytes 8 x) = Q at hl3 ⊢
  rw [List.take_left' hl2, hl3, ← List.drop_drop, List.drop_left' hl2, List.drop_replicate, List.append_assoc]
  congr 3
  omega
theorem index_runL (cs : Array Value) (k : Nat) (v : Value) (hk : k < 8) (hv : cs[k]? = some v) (W : World) : (Instr.index 68 (.agg cs) (.int .i64 (k : Int))).run Tryd.prog W = .ok v W := by
  have hu := run_underlying (P := Tryd.prog) Tryd.underlying68 W
  have hu2 := run_underlying (P := Tryd.prog) Tryd.underlying52 W
  have h8 : (k : Int) < 8 := by omega
  have hI : (Tryd.prog.info? 52).map (·.size) = some 1 := by kernel_rfl
  cases hq : Tryd.prog.info? 52 with
  | none => simp [hq] at hI
  | some i =>
    have hs : i.size = 1 := by simpa [hq] using hI
    simp [Instr.index, asIntOf, hu, part, isAgg, hu2, sizeOf, typeInfo, hq, hs, h8, hv]
    intro h; omega
theorem stL_get (v : St) (k y : Nat) (hy : v.list[k]? = some y) : (stL v)[k]? = some (.int .u64 (y : Int)) := by
  rw [stL, List.getElem?_toArray, uvs, List.getElem?_map, hy]; rfl

theorem sizeU8L : (Tryd.prog.info? 5).map (·.size) = some 1 := by kernel_rfl
/-- What lies in a slice, as copy asks it. -/
theorem lieL_src {w : World} {B : Nat} {A : Option Addr} {cs : List Value} (h : Lie w B A cs) (hp : 0 < cs.length) : ∃ ad, A = some ad ∧ ∀ j v, cs[j]? = some v → w.cell? (ad.add j) = some v := by
  obtain ⟨b, o, rfl, _, hc⟩ := h (fun e => by subst e; simp at hp)
  exact ⟨_, rfl, fun j v hv => by rw [add_none]; exact hc j v hv⟩
/-- Zeros as bytes. -/
theorem bvs_zeros (n : Nat) : bvs (List.replicate n 0) = List.replicate n (Value.int .u8 0) := by simp [bvs]
/-- The block's cells when the mark is laid. -/
theorem mark_row (r : List UInt8) (F z : Nat) (h : r.length + 1 + z + 16 = F) :
    ((splice (List.replicate F (Value.int .u8 0)) 0 (bvs r)).toArray.setIfInBounds r.length (Value.int .u8 128)) = (bvs (r ++ [128] ++ List.replicate z 0 ++ List.replicate 16 0)).toArray := by
  have h2 : F - r.length = 1 + (z + 16) := by omega
  simp only [splice, List.take_zero, List.nil_append, bvs_length, Nat.zero_add, List.drop_replicate, h2, List.setIfInBounds_toArray]
  congr 1
  rw [List.set_append_right _ _ (by simp), bvs_length, Nat.sub_self, Nat.add_comm 1, List.replicate_succ, List.set_cons_zero]
  rw [← List.replicate_append_replicate]
  simp [bvs, List.append_assoc]
/-- .. and the count's bytes. -/
theorem count_row (P b1 b2 : List UInt8) (F : Nat) (hP : P.length + 16 = F) (h1 : b1.length = 8) (h2 : b2.length = 8) :
    (((((bvs (P ++ List.replicate 16 0)).take (F - 16) ++ (bvs b1 ++ (bvs (P ++ List.replicate 16 0)).drop (F - 16 + (bvs b1).length))).toArray.toList.take (F - 8) ++ (bvs b2 ++ ((bvs (P ++ List.replicate 16 0)).take (F - 16) ++ (bvs b1 ++ (bvs (P ++ List.replicate 16 0)).drop (F - 16 + (bvs b1).length))).toArray.toList.drop (F - 8 + (bvs b2).length)))).toArray = (bvs (P ++ (b1 ++ b2))).toArray) := by
  have e16 : F - 16 = P.length := by omega
  have e8 : F - 8 = P.length + 8 := by omega
  rw [e16, e8]
  simp only [bvs_append, bvs_zeros]
  congr 1
  have hl : (bvs P).length = P.length := bvs_length P
  have g1 : (bvs b1).length = 8 := by simp [h1]
  have g2 : (bvs b2).length = 8 := by simp [h2]
  generalize bvs P = p at *
  generalize bvs b1 = x at *
  generalize bvs b2 = y at *
  generalize P.length = q at *
  rw [g1, g2, List.take_left' hl, ← List.drop_drop, List.drop_left' hl, List.drop_replicate]
  rw [← List.append_assoc p x, List.take_left' (by simp [hl, g1]), ← List.drop_drop (i := 8) (j := q + 8), List.drop_left' (by simp [hl, g1]), List.drop_replicate]
  simp
theorem be16 (m : Nat) : beBytes 16 m = beBytes 8 (m / 256 ^ 8) ++ beBytes 8 m := by
  simp only [beBytes, Nat.div_div_eq_div_mul, ← Nat.pow_add, List.cons_append, List.nil_append]

set_option maxRecDepth 100000 in
set_option maxHeartbeats 1600000 in
theorem closedL_128 (s : St) (A : Option Addr) (r : List UInt8) (c n : Nat) (w : World) (hs : s.okL) (hr : r.length < 112) (hrn : r.length = n % 128) (hn : n ≤ 1152921504606846976) (hA : Lie w w.heap.size A (bvs r)) (hg : GlobL w) :
    Calls Tryd.prog 49 #[.agg (stL s), .slice A r.length c, .int .u64 (n : Int)] w fun e w' => e = .returned (.agg (byA (closeSL s r n).bytesL)) ∧ Below w.heap.size w w' := by
  have HS := hid hs; have HA := hid hA; have HG := hid hg; have HRN := hid hrn
  obtain ⟨i0, hi, hz0, hz1, hz2⟩ := info_parts infoU8
  have hpz : r.length + 1 + padZL n + 16 = 128 := by unfold padZL; omega
  have HPZ := hid hpz
  obtain ⟨zF, hzF⟩ : ∃ zF : List Value, zF = List.replicate 128 (Value.int .u8 0) := ⟨_, rfl⟩
  have hzl : zF.length = 128 := by rw [hzF, List.length_replicate]
  have hmk : ∀ W : World, (Instr.makeSlice 22 (.int .i64 128) (.int .i64 128)).run Tryd.prog W = .ok (.slice (some ⟨W.heap.size, 0, none⟩) 128 128) (W.alloc (.cells zF.toArray 5)) := fun W => by
    have h := run_make (P := Tryd.prog) W 22 5 i0 _ Tryd.underlying22 hi hz0 .i64 .i64 128 128 (by omega) (by omega) (by rw [hz2]; omega) (by omega)
    rw [hz1] at h
    rw [h, hzF, ← toList_madeCells_one]
    rfl
  obtain ⟨z64, hz64⟩ : ∃ z : Array Value, z = (List.replicate 64 (Value.int .u8 0)).toArray := ⟨_, rfl⟩
  have hz64s : z64.size = 64 := by rw [hz64]; simp
  have hzero : ∀ W : World, (zeroValue 30).run Tryd.prog W = .ok (.agg z64) W := fun W => by
    rw [hz64]
    exact (zero_of_info (P := Tryd.prog) (t := 30) (v := .agg (List.replicate 64 (Value.int .u8 0)).toArray) (n := 64) (by kernel_rfl)).1 W
  have HZF := hid hzF; have HZL := hid hzl; have HZ64 := hid hz64; have HZS := hid hz64s
  clear hs hA hg hrn hz0 hz1 hz2 hi hpz hzF hzl hz64 hz64s
  go_enter Tryd.func49, Tryd.ntmps49
  have hrow3 : (((w.alloc (.cells (stL s) A8L)).alloc (.cells z64 A64B)).alloc (.cells zF.toArray 5)).heap[w.heap.size + 1 + 1]? = some (.cells zF.toArray 5 (0, 0)) := by
    have h := heap_alloc_new ((w.alloc (.cells (stL s) A8L)).alloc (.cells z64 A64B)) (.cells zF.toArray 5)
    simpa using h
  have hS2 : ((w.alloc (.cells (stL s) A8L)).alloc (.cells z64 A64B)).heap[w.heap.size]? = some (.cells (stL s) A8L (0, 0)) := heap_alloc2_old w _ _
  have hR2 : ((w.alloc (.cells (stL s) A8L)).alloc (.cells z64 A64B)).heap[w.heap.size + 1]? = some (.cells z64 A64B (0, 0)) := heap_alloc2_new w _ _
  have hB2 : Below w.heap.size w ((w.alloc (.cells (stL s) A8L)).alloc (.cells z64 A64B)) := ((Below.refl _ _).alloc (Nat.le_refl _) _).alloc (by simp) _
  have hB23 : Below (w.heap.size + 1 + 1) ((w.alloc (.cells (stL s) A8L)).alloc (.cells z64 A64B)) (((w.alloc (.cells (stL s) A8L)).alloc (.cells z64 A64B)).alloc (.cells zF.toArray 5)) := (Below.refl _ _).alloc (by simp) _
  have hsz2 : ((w.alloc (.cells (stL s) A8L)).alloc (.cells z64 A64B)).heap.size = w.heap.size + 1 + 1 := by simp
  obtain ⟨bv, hbv⟩ : ∃ bv, bv = bvs r := ⟨_, rfl⟩
  have hbl : bv.length = r.length := by rw [hbv]; simp
  have HA3 : Hid (Lie (((w.alloc (.cells (stL s) A8L)).alloc (.cells z64 A64B)).alloc (.cells zF.toArray 5)) w.heap.size A bv) := hid (by rw [hbv]; exact HA.out.below (hB2.alloc (by simp; omega) _))
  have HR3 := hid hrow3; have HS2 := hid hS2; have HR2 := hid hR2; have HB2 := hid hB2; have HB23 := hid hB23; have HSZ := hid hsz2; have HBV := hid hbv; have HBL := hid hbl
  clear hrow3 hS2 hR2 hB2 hB23 hsz2 hbv hbl
  go_wp2_with (with_reducible refine wpList_copy_splice rfl (.tmp 20) (.tmp 21) 22 22 rfl 5 Tryd.underlying22 sizeU8L _ _ _ _ _ _ rfl rfl (w.heap.size + 1 + 1) 0 zF 5 HR3.out bv ?e2 ?e3 ?e4 ?e5 (w.heap.size + 1 + 1) ((w.alloc (.cells (stL s) A8L)).alloc (.cells z64 A64B)) HB23.out (Nat.le_refl _) ?_)
  case e2 => rw [HBL.out]; exact (Nat.min_eq_left (by omega)).symm
  case e3 => intro hp; first | exact ⟨rfl, lieL_src HA3.out hp⟩ | exact lieL_src HA3.out hp
  case e4 => rw [HBL.out, HZL.out]; omega
  case e5 => rw [HBV.out]; exact bvs_one r
  intro w4 HW4 hb4
  rw [HBL.out]
  have hcr : (splice zF 0 bv).length = 128 := by rw [length_splice _ _ _ (by rw [HBL.out, HZL.out]; omega), HZL.out]
  obtain ⟨v, hv⟩ : ∃ v, w4.cell? ⟨w.heap.size + 1 + 1, r.length, none⟩ = some v := ⟨_, cell_of HW4.out r.length _ (Array.getElem?_eq_getElem (by rw [List.size_toArray, hcr]; omega))⟩
  have hfz : w4.frozen? ⟨w.heap.size + 1 + 1, r.length, none⟩ = false := frozen_of_row _ _ _ _ _ HW4.out
  have hm5 := block_set HW4.out r.length (.int .u8 128)
  obtain ⟨P, hP⟩ : ∃ P, P = r ++ [128] ++ List.replicate (padZL n) 0 := ⟨_, rfl⟩
  have hPl : P.length + 16 = 128 := by rw [hP]; simp; have := HPZ.out; omega
  rw [HZF.out, HBV.out, mark_row r 128 (padZL n) HPZ.out, ← hP] at hm5
  have hq : (n : Int) / 2305843009213693952 = 0 := by omega
  have hr0 : (0 : Int) ≤ (r.length : Int) := by omega
  have hr1 : (r.length : Int) < 128 := by omega
  have hP1 := put_any (w.heap.size + 1 + 1) 112 16 16 0 (bvs (P ++ List.replicate 16 0)).toArray 5 (w4.setCell ⟨w.heap.size + 1 + 1, r.length, none⟩ (.int .u8 128)) (by omega) (by omega) (by omega) hm5 (by simp; omega)
  rw [show ((0 : Nat) : Int) = 0 from rfl] at hP1
  have HP1 := hid hP1
  have HB4 := hid hb4; have HP := hid hP; have HPL := hid hPl; have HM5 := hid hm5
  clear hb4 hcr hm5 hP hPl hP1
  go_wp2_with fail
  refine HP1.out.mono ?_
  rintro e w5 ⟨rfl, hw5⟩
  have hrow5 := heap_setCells (bvs (beBytes 8 0)) HM5.out 112 (by simp; have := HPL.out; omega)
  rw [← hw5] at hrow5
  have hg5 : w4.grownBy w5 (some (w.heap.size + 1 + 1)) := by rw [hw5]; exact grown_step (grown_setCell _ _ _ none _) (.inl rfl) (grown_setCells _ _ _ _)
  have hP2 := put_any (w.heap.size + 1 + 1) 120 8 8 (8 * n) _ _ w5 (by omega) (by omega) (by omega) hrow5 (by simp; have := HPL.out; omega)
  have hrow6 := heap_setCells (bvs (beBytes 8 (8 * n))) hrow5 120 (by simp; have := HPL.out; omega)
  have hc := count_row P (beBytes 8 0) (beBytes 8 (8 * n)) 128 HPL.out (by simp) (by simp)
  simp only [Nat.reduceSub] at hc
  simp only [List.toList_toArray] at hrow6 hc
  rw [hc] at hrow6
  have he16 : beBytes 8 0 ++ beBytes 8 (8 * n) = beBytes 16 (8 * n) := by rw [be16, show 8 * n / 256 ^ 8 = 0 from Nat.div_eq_of_lt (by omega)]
  rw [he16, HP.out] at hrow6
  have hrow6' : (w5.setCells (w.heap.size + 1 + 1) 120 (bvs (beBytes 8 (8 * n)))).heap[w.heap.size + 1 + 1]? = some (.cells (bvs (padNL r n (beBytes 16 (8 * n)))).toArray 5 (0, 0)) := hrow6
  have h8n : (n : Int) * 8 = ((8 * n : Nat) : Int) := by omega
  have h8l : (n : Int) * 8 < 18446744073709551616 := by omega
  rw [← h8n] at hP2
  have HP2 := hid hP2; have HR6 := hid hrow6'
  have HB5 := hid (HB4.out.grown hg5 (by have := HB4.out.size; have := HSZ.out; omega) (fun k hk => by injection hk with hk; omega))
  clear hw5 hrow5 hg5 hP2 hrow6 hc he16 hrow6' h8n hq
  go_wp2_with fail
  refine HP2.out.mono ?_
  rintro e w6 ⟨rfl, hw6⟩
  have hR6 := HR6.out
  rw [← hw6] at hR6
  have hB6 : Below (w.heap.size + 1 + 1) ((w.alloc (.cells (stL s) A8L)).alloc (.cells z64 A64B)) w6 := by
    rw [hw6]; exact HB5.out.grown (grown_setCells _ _ _ _) (by have := HB5.out.size; have := HSZ.out; omega) (fun k hk => by injection hk with hk; omega)
  obtain ⟨zs, hzs⟩ : ∃ zs, zs = padNL r n (beBytes 16 (8 * n)) := ⟨_, rfl⟩
  rw [← hzs] at hR6
  have hzl : zs.length = 128 := by rw [hzs, padNL]; simp; have := HPZ.out; omega
  have hS6 : w6.heap[w.heap.size]? = some (.cells (stL s) A8L (0, 0)) := (hB6.block _ (by omega)).trans HS2.out
  have hR0 : w6.heap[w.heap.size + 1]? = some (.cells z64 A64B (0, 0)) := (hB6.block _ (by omega)).trans HR2.out
  have hBw : Below w.heap.size w w6 := HB2.out.trans (hB6.mono (by omega))
  have hsz6 : w.heap.size + 1 + 1 ≤ w6.heap.size := by have := block_lt hR6; omega
  have HTH := hid (throughL_any s (some ⟨w.heap.size + 1 + 1, 0, none⟩) zs 128 w6 HS.out (Lie.sq (fun _ => ⟨w.heap.size + 1 + 1, 0, rfl, block_lt hR6, fun j u hu => by rw [Nat.zero_add]; exact cell_of hR6 j u (by simpa using hu)⟩) (by simp [hzl]) (by omega)) (HG.out.below hBw (Nat.le_refl _)))
  rw [hzl] at HTH
  have hcl : blocksL kTabL (128 / 128) s zs = closeSL s r n := by rw [closeSL, ← hzs, hzl]
  rw [hcl] at HTH
  have HI : Hid ((Tryd.prog.info? 68).map (·.size) = some (stL s).size) := hid (info8L.trans (congrArg some (stL_size _).symm))
  have HS6 := hid hS6; have HR0 := hid hR0; have HBW := hid hBw
  clear hw6 hR6 hB6 hzs hzl hS6 hR0 hBw hcl HB5 HP2 HR6
  go_wp2_with (first
    | fail
    | (with_reducible refine wpList_load_row rfl 68 (.tmp 3) rfl w.heap.size rfl A8L (stL s) (0, 0) _ HS6.out Tryd.underlying68 rfl HI.out ?_))
  refine HTH.out.mono ?_
  rintro e w7 ⟨A7, c7, rfl, _, hb7, _⟩
  obtain ⟨ct, hct⟩ : ∃ ct, ct = closeSL s r n := ⟨_, rfl⟩
  have hco : ct.okL := by rw [hct, closeSL]; exact blocksL_okay _ _ _ _ HS.out
  rw [← hct]
  have hS7 : w7.heap[w.heap.size]? = some (.cells (stL s) A8L (0, 0)) := (hb7.block _ (by omega)).trans HS6.out
  have hR7 : w7.heap[w.heap.size + 1]? = some (.cells z64 A64B (0, 0)) := (hb7.block _ (by omega)).trans HR0.out
  have hB7 : Below w.heap.size w w7 := HBW.out.trans (hb7.mono (by omega))
  have hsz7 : w.heap.size + 1 + 1 ≤ w7.heap.size := Nat.le_trans hsz6 hb7.size
  have HI2 : Hid ((Tryd.prog.info? 68).map (·.size) = some (stL ct).size) := hid (info8L.trans (congrArg some (stL_size _).symm))
  have HZ2 : Hid ((stL s).size = (stL ct).size) := hid ((stL_size s).trans (stL_size ct).symm)
  have HO2 := hid (stL_one ct)
  have hS8 : (w7.setRow w.heap.size (stL ct)).heap[w.heap.size]? = some (.cells (stL ct) A8L (0, 0)) := setRow_heap _ _ _ _ _ _ hS7
  have hS9 : ((w7.setRow w.heap.size (stL ct)).alloc (.cells z64 A64B)).heap[w.heap.size]? = some (.cells (stL ct) A8L (0, 0)) := (Below.heap_alloc _ _ _ (by rw [size_setRow]; omega)).trans hS8
  have hR9 : ((w7.setRow w.heap.size (stL ct)).alloc (.cells z64 A64B)).heap[w.heap.size + 1]? = some (.cells z64 A64B (0, 0)) := (Below.heap_alloc _ _ _ (by rw [size_setRow]; omega)).trans ((setRow_other _ _ _ _ (by omega)).trans hR7)
  have hD9 : ((w7.setRow w.heap.size (stL ct)).alloc (.cells z64 A64B)).heap[w7.heap.size]? = some (.cells (dL ct 0) A64B (0, 0)) := by
    have h := heap_alloc_new (w7.setRow w.heap.size (stL ct)) (.cells z64 A64B)
    rw [size_setRow] at h
    rw [h, dL_zero, HZ64.out]
  have hB9 : Below w.heap.size w ((w7.setRow w.heap.size (stL ct)).alloc (.cells z64 A64B)) := (below_setRow hB7 (Nat.le_refl _) _).alloc (by rw [size_setRow]; omega) _
  have hsr : (w7.setRow w.heap.size (stL ct)).heap.size = w7.heap.size := size_setRow _ _ _
  have HS7 := hid hS7; have HS9 := hid hS9; have HR9 := hid hR9; have HD9 := hid hD9; have HB9 := hid hB9; have HCT := hid hct; have HCO := hid hco
  clear hb7 hS7 hR7 hB7 hS8 hS9 hR9 hD9 hB9 hct hco HTH HBW HS6 HR0
  go_wp2_with (first
    | fail
    | (with_reducible refine wpList_store_row rfl 68 (.tmp 3) _ rfl w.heap.size (stL ct) rfl rfl A8L (stL s) HS7.out HI2.out HZ2.out HO2.out ?_)
    | (with_reducible refine wpList_load_row rfl 68 (.tmp 3) rfl w.heap.size rfl A8L (stL ct) (0, 0) _ HS9.out Tryd.underlying68 rfl HI2.out ?_))
  clear hzero hmk
  generalize (w7.setRow w.heap.size (stL ct)).alloc (.cells z64 A64B) = w9 at *
  have hD : w.heap.size + 1 < w7.heap.size := by omega
  generalize w7.heap.size = D at *
  have HIX : Hid (∀ (k x : Nat) (W : World), k < 8 → ct.list[k]? = some x → (Instr.index 68 (.agg (stL ct)) (.int .i64 (k : Int))).run Tryd.prog W = .ok (.int .u64 (x : Int)) W) := hid fun k x W hk hx => index_runL _ k _ hk (stL_get ct k x hx) W
  go_loopg [45] 8 (fun r i wr => ∃ k : Nat, k + r = 8 ∧ i = .int .i64 (k : Int) ∧ wr.heap[D]? = some (.cells (dL ct k) A64B (0, 0)) ∧ wr.heap[w.heap.size + 1]? = some (.cells z64 A64B (0, 0)) ∧ Below w.heap.size w wr)
  case atStart => exact ⟨0, rfl, rfl, HD9.out, HR9.out, HB9.out⟩
  case round =>
    clear HD9 HR9 HB9 HS9
    obtain ⟨k, hk, rfl, hd, hr9, hb⟩ := hrel
    have HD := hid hd; have HR := hid hr9; have HB := hid hb; have HK := hid hk
    have hkb : k ≤ 8 := by omega
    clear hd hr9 hb hk
    by_cases hlt : k < 8
    · have hx8 : (k : Int) < 8 := by omega
      have hk0 : (0 : Int) ≤ (k : Int) := by omega
      obtain ⟨x, hx⟩ : ∃ x, ct.list[k]? = some x := ⟨_, List.getElem?_eq_getElem (show k < 8 from hlt)⟩
      have hxl : x < 18446744073709551616 := St.list_ltL ct HCO.out x (List.mem_of_getElem? hx)
      have hi2 : ∀ W : World, (Instr.index 68 (.agg (stL ct)) (.int .i64 (k : Int))).run Tryd.prog W = .ok (.int .u64 (x : Int)) W := fun W => HIX.out k x W hlt hx
      have hne : ¬ (8 * k = 64) := by omega
      have h8a : (0 : Int) ≤ 8 * (k : Int) := by omega
      have h8b : 8 * (k : Int) ≤ 64 := by omega
      have h8c : (8 * (k : Int)).toNat = 8 * k := by omega
      have HPT := hid (put_any D (8 * k) (64 - 8 * k) (64 - 8 * k) x (dL ct k) A64B wr hxl (by omega) (by omega) HD.out (by rw [dL_size ct k hkb]; omega))
      have hrow := heap_setCells (bvs (beBytes 8 x)) HD.out (8 * k) (by rw [dL_size ct k hkb]; simp; omega)
      rw [dL_next ct k x hlt hx] at hrow
      have HROW := hid hrow
      clear hrow hx
      go_wp2_with fail
      refine HPT.out.mono ?_
      rintro e w10 ⟨rfl, hw10⟩
      have hg10 : wr.grownBy w10 (some D) := by rw [hw10]; exact grown_setCells _ _ _ _
      have hD10 : w10.heap[D]? = some (.cells (dL ct (k + 1)) A64B (0, 0)) := by rw [hw10]; exact HROW.out
      have HG10 := hid hg10; have HD10 := hid hD10
      clear hw10 hg10 hD10
      go_wp2
      have hk := HK.out
      go_roundg (8 - k - 1)
      case measure => omega
      case rel => exact ⟨k + 1, by omega, by go_num, HD10.out, (HG10.out.block _ (block_lt HR.out) (by simp; omega)).trans HR.out, HB.out.grown HG10.out HB.out.size (fun q hq => by injection hq with hq; omega)⟩
    · obtain rfl : k = 8 := by omega
      have hdz : (dL ct 8).size = 64 := dL_size ct 8 (by omega)
      have HI3 : Hid ((Tryd.prog.info? 30).map (·.size) = some (dL ct 8).size) := hid (info64B.trans (congrArg some hdz.symm))
      have HZ3 : Hid (z64.size = (dL ct 8).size) := hid (HZS.out.trans hdz.symm)
      have HO3 : Hid ((dL ct 8).all (·.oneCell') = true) := hid (by rw [dL_end]; exact byA_one _)
      clear hdz
      go_wp2_with (first
        | (with_reducible refine wpList_load_row rfl 30 (.tmp 9) rfl D rfl A64B (dL ct 8) (0, 0) _ HD.out Tryd.underlying30 rfl HI3.out ?_)
        | (with_reducible refine wpList_store_row rfl 30 (.tmp 6) _ rfl (w.heap.size + 1) (dL ct 8) rfl rfl A64B z64 HR.out HI3.out HZ3.out HO3.out ?_))
      refine bodyPost_ret (v := .agg (dL ct 8)) (results_cell_row rfl _ _ (w.heap.size + 1) A64B (dL ct 8) (0, 0) _ rfl (setRow_heap _ _ _ _ _ _ HR.out) Tryd.underlying30 rfl HI3.out) rfl ⟨by rw [dL_end, HCT.out], ?_⟩
      exact below_setRow HB.out (by omega) _

set_option maxRecDepth 100000 in
set_option maxHeartbeats 1600000 in
theorem closedL_256 (s : St) (A : Option Addr) (r : List UInt8) (c n : Nat) (w : World) (hs : s.okL) (hr0 : 112 ≤ r.length) (hr : r.length < 128) (hrn : r.length = n % 128) (hn : n ≤ 1152921504606846976) (hA : Lie w w.heap.size A (bvs r)) (hg : GlobL w) :
    Calls Tryd.prog 49 #[.agg (stL s), .slice A r.length c, .int .u64 (n : Int)] w fun e w' => e = .returned (.agg (byA (closeSL s r n).bytesL)) ∧ Below w.heap.size w w' := by
  have HS := hid hs; have HA := hid hA; have HG := hid hg; have HRN := hid hrn
  obtain ⟨i0, hi, hz0, hz1, hz2⟩ := info_parts infoU8
  have hpz : r.length + 1 + padZL n + 16 = 256 := by unfold padZL; omega
  have HPZ := hid hpz
  obtain ⟨zF, hzF⟩ : ∃ zF : List Value, zF = List.replicate 256 (Value.int .u8 0) := ⟨_, rfl⟩
  have hzl : zF.length = 256 := by rw [hzF, List.length_replicate]
  have hmk : ∀ W : World, (Instr.makeSlice 22 (.int .i64 256) (.int .i64 256)).run Tryd.prog W = .ok (.slice (some ⟨W.heap.size, 0, none⟩) 256 256) (W.alloc (.cells zF.toArray 5)) := fun W => by
    have h := run_make (P := Tryd.prog) W 22 5 i0 _ Tryd.underlying22 hi hz0 .i64 .i64 256 256 (by omega) (by omega) (by rw [hz2]; omega) (by omega)
    rw [hz1] at h
    rw [h, hzF, ← toList_madeCells_one]
    rfl
  obtain ⟨z64, hz64⟩ : ∃ z : Array Value, z = (List.replicate 64 (Value.int .u8 0)).toArray := ⟨_, rfl⟩
  have hz64s : z64.size = 64 := by rw [hz64]; simp
  have hzero : ∀ W : World, (zeroValue 30).run Tryd.prog W = .ok (.agg z64) W := fun W => by
    rw [hz64]
    exact (zero_of_info (P := Tryd.prog) (t := 30) (v := .agg (List.replicate 64 (Value.int .u8 0)).toArray) (n := 64) (by kernel_rfl)).1 W
  have HZF := hid hzF; have HZL := hid hzl; have HZ64 := hid hz64; have HZS := hid hz64s
  clear hs hA hg hrn hz0 hz1 hz2 hi hpz hzF hzl hz64 hz64s
  go_enter Tryd.func49, Tryd.ntmps49
  have hrow3 : (((w.alloc (.cells (stL s) A8L)).alloc (.cells z64 A64B)).alloc (.cells zF.toArray 5)).heap[w.heap.size + 1 + 1]? = some (.cells zF.toArray 5 (0, 0)) := by
    have h := heap_alloc_new ((w.alloc (.cells (stL s) A8L)).alloc (.cells z64 A64B)) (.cells zF.toArray 5)
    simpa using h
  have hS2 : ((w.alloc (.cells (stL s) A8L)).alloc (.cells z64 A64B)).heap[w.heap.size]? = some (.cells (stL s) A8L (0, 0)) := heap_alloc2_old w _ _
  have hR2 : ((w.alloc (.cells (stL s) A8L)).alloc (.cells z64 A64B)).heap[w.heap.size + 1]? = some (.cells z64 A64B (0, 0)) := heap_alloc2_new w _ _
  have hB2 : Below w.heap.size w ((w.alloc (.cells (stL s) A8L)).alloc (.cells z64 A64B)) := ((Below.refl _ _).alloc (Nat.le_refl _) _).alloc (by simp) _
  have hB23 : Below (w.heap.size + 1 + 1) ((w.alloc (.cells (stL s) A8L)).alloc (.cells z64 A64B)) (((w.alloc (.cells (stL s) A8L)).alloc (.cells z64 A64B)).alloc (.cells zF.toArray 5)) := (Below.refl _ _).alloc (by simp) _
  have hsz2 : ((w.alloc (.cells (stL s) A8L)).alloc (.cells z64 A64B)).heap.size = w.heap.size + 1 + 1 := by simp
  obtain ⟨bv, hbv⟩ : ∃ bv, bv = bvs r := ⟨_, rfl⟩
  have hbl : bv.length = r.length := by rw [hbv]; simp
  have HA3 : Hid (Lie (((w.alloc (.cells (stL s) A8L)).alloc (.cells z64 A64B)).alloc (.cells zF.toArray 5)) w.heap.size A bv) := hid (by rw [hbv]; exact HA.out.below (hB2.alloc (by simp; omega) _))
  have HR3 := hid hrow3; have HS2 := hid hS2; have HR2 := hid hR2; have HB2 := hid hB2; have HB23 := hid hB23; have HSZ := hid hsz2; have HBV := hid hbv; have HBL := hid hbl
  clear hrow3 hS2 hR2 hB2 hB23 hsz2 hbv hbl
  go_wp2_with (with_reducible refine wpList_copy_splice rfl (.tmp 20) (.tmp 21) 22 22 rfl 5 Tryd.underlying22 sizeU8L _ _ _ _ _ _ rfl rfl (w.heap.size + 1 + 1) 0 zF 5 HR3.out bv ?e2 ?e3 ?e4 ?e5 (w.heap.size + 1 + 1) ((w.alloc (.cells (stL s) A8L)).alloc (.cells z64 A64B)) HB23.out (Nat.le_refl _) ?_)
  case e2 => rw [HBL.out]; exact (Nat.min_eq_left (by omega)).symm
  case e3 => intro hp; first | exact ⟨rfl, lieL_src HA3.out hp⟩ | exact lieL_src HA3.out hp
  case e4 => rw [HBL.out, HZL.out]; omega
  case e5 => rw [HBV.out]; exact bvs_one r
  intro w4 HW4 hb4
  rw [HBL.out]
  have hcr : (splice zF 0 bv).length = 256 := by rw [length_splice _ _ _ (by rw [HBL.out, HZL.out]; omega), HZL.out]
  obtain ⟨v, hv⟩ : ∃ v, w4.cell? ⟨w.heap.size + 1 + 1, r.length, none⟩ = some v := ⟨_, cell_of HW4.out r.length _ (Array.getElem?_eq_getElem (by rw [List.size_toArray, hcr]; omega))⟩
  have hfz : w4.frozen? ⟨w.heap.size + 1 + 1, r.length, none⟩ = false := frozen_of_row _ _ _ _ _ HW4.out
  have hm5 := block_set HW4.out r.length (.int .u8 128)
  obtain ⟨P, hP⟩ : ∃ P, P = r ++ [128] ++ List.replicate (padZL n) 0 := ⟨_, rfl⟩
  have hPl : P.length + 16 = 256 := by rw [hP]; simp; have := HPZ.out; omega
  rw [HZF.out, HBV.out, mark_row r 256 (padZL n) HPZ.out, ← hP] at hm5
  have hq : (n : Int) / 2305843009213693952 = 0 := by omega
  have hr0 : (0 : Int) ≤ (r.length : Int) := by omega
  have hr1 : (r.length : Int) < 256 := by omega
  have hP1 := put_any (w.heap.size + 1 + 1) 240 16 16 0 (bvs (P ++ List.replicate 16 0)).toArray 5 (w4.setCell ⟨w.heap.size + 1 + 1, r.length, none⟩ (.int .u8 128)) (by omega) (by omega) (by omega) hm5 (by simp; omega)
  rw [show ((0 : Nat) : Int) = 0 from rfl] at hP1
  have HP1 := hid hP1
  have HB4 := hid hb4; have HP := hid hP; have HPL := hid hPl; have HM5 := hid hm5
  clear hb4 hcr hm5 hP hPl hP1
  go_wp2_with fail
  refine HP1.out.mono ?_
  rintro e w5 ⟨rfl, hw5⟩
  have hrow5 := heap_setCells (bvs (beBytes 8 0)) HM5.out 240 (by simp; have := HPL.out; omega)
  rw [← hw5] at hrow5
  have hg5 : w4.grownBy w5 (some (w.heap.size + 1 + 1)) := by rw [hw5]; exact grown_step (grown_setCell _ _ _ none _) (.inl rfl) (grown_setCells _ _ _ _)
  have hP2 := put_any (w.heap.size + 1 + 1) 248 8 8 (8 * n) _ _ w5 (by omega) (by omega) (by omega) hrow5 (by simp; have := HPL.out; omega)
  have hrow6 := heap_setCells (bvs (beBytes 8 (8 * n))) hrow5 248 (by simp; have := HPL.out; omega)
  have hc := count_row P (beBytes 8 0) (beBytes 8 (8 * n)) 256 HPL.out (by simp) (by simp)
  simp only [Nat.reduceSub] at hc
  simp only [List.toList_toArray] at hrow6 hc
  rw [hc] at hrow6
  have he16 : beBytes 8 0 ++ beBytes 8 (8 * n) = beBytes 16 (8 * n) := by rw [be16, show 8 * n / 256 ^ 8 = 0 from Nat.div_eq_of_lt (by omega)]
  rw [he16, HP.out] at hrow6
  have hrow6' : (w5.setCells (w.heap.size + 1 + 1) 248 (bvs (beBytes 8 (8 * n)))).heap[w.heap.size + 1 + 1]? = some (.cells (bvs (padNL r n (beBytes 16 (8 * n)))).toArray 5 (0, 0)) := hrow6
  have h8n : (n : Int) * 8 = ((8 * n : Nat) : Int) := by omega
  have h8l : (n : Int) * 8 < 18446744073709551616 := by omega
  rw [← h8n] at hP2
  have HP2 := hid hP2; have HR6 := hid hrow6'
  have HB5 := hid (HB4.out.grown hg5 (by have := HB4.out.size; have := HSZ.out; omega) (fun k hk => by injection hk with hk; omega))
  clear hw5 hrow5 hg5 hP2 hrow6 hc he16 hrow6' h8n hq
  go_wp2_with fail
  refine HP2.out.mono ?_
  rintro e w6 ⟨rfl, hw6⟩
  have hR6 := HR6.out
  rw [← hw6] at hR6
  have hB6 : Below (w.heap.size + 1 + 1) ((w.alloc (.cells (stL s) A8L)).alloc (.cells z64 A64B)) w6 := by
    rw [hw6]; exact HB5.out.grown (grown_setCells _ _ _ _) (by have := HB5.out.size; have := HSZ.out; omega) (fun k hk => by injection hk with hk; omega)
  obtain ⟨zs, hzs⟩ : ∃ zs, zs = padNL r n (beBytes 16 (8 * n)) := ⟨_, rfl⟩
  rw [← hzs] at hR6
  have hzl : zs.length = 256 := by rw [hzs, padNL]; simp; have := HPZ.out; omega
  have hS6 : w6.heap[w.heap.size]? = some (.cells (stL s) A8L (0, 0)) := (hB6.block _ (by omega)).trans HS2.out
  have hR0 : w6.heap[w.heap.size + 1]? = some (.cells z64 A64B (0, 0)) := (hB6.block _ (by omega)).trans HR2.out
  have hBw : Below w.heap.size w w6 := HB2.out.trans (hB6.mono (by omega))
  have hsz6 : w.heap.size + 1 + 1 ≤ w6.heap.size := by have := block_lt hR6; omega
  have HTH := hid (throughL_any s (some ⟨w.heap.size + 1 + 1, 0, none⟩) zs 256 w6 HS.out (Lie.sq (fun _ => ⟨w.heap.size + 1 + 1, 0, rfl, block_lt hR6, fun j u hu => by rw [Nat.zero_add]; exact cell_of hR6 j u (by simpa using hu)⟩) (by simp [hzl]) (by omega)) (HG.out.below hBw (Nat.le_refl _)))
  rw [hzl] at HTH
  have hcl : blocksL kTabL (256 / 128) s zs = closeSL s r n := by rw [closeSL, ← hzs, hzl]
  rw [hcl] at HTH
  have HI : Hid ((Tryd.prog.info? 68).map (·.size) = some (stL s).size) := hid (info8L.trans (congrArg some (stL_size _).symm))
  have HS6 := hid hS6; have HR0 := hid hR0; have HBW := hid hBw
  clear hw6 hR6 hB6 hzs hzl hS6 hR0 hBw hcl HB5 HP2 HR6
  go_wp2_with (first
    | fail
    | (with_reducible refine wpList_load_row rfl 68 (.tmp 3) rfl w.heap.size rfl A8L (stL s) (0, 0) _ HS6.out Tryd.underlying68 rfl HI.out ?_))
  refine HTH.out.mono ?_
  rintro e w7 ⟨A7, c7, rfl, _, hb7, _⟩
  obtain ⟨ct, hct⟩ : ∃ ct, ct = closeSL s r n := ⟨_, rfl⟩
  have hco : ct.okL := by rw [hct, closeSL]; exact blocksL_okay _ _ _ _ HS.out
  rw [← hct]
  have hS7 : w7.heap[w.heap.size]? = some (.cells (stL s) A8L (0, 0)) := (hb7.block _ (by omega)).trans HS6.out
  have hR7 : w7.heap[w.heap.size + 1]? = some (.cells z64 A64B (0, 0)) := (hb7.block _ (by omega)).trans HR0.out
  have hB7 : Below w.heap.size w w7 := HBW.out.trans (hb7.mono (by omega))
  have hsz7 : w.heap.size + 1 + 1 ≤ w7.heap.size := Nat.le_trans hsz6 hb7.size
  have HI2 : Hid ((Tryd.prog.info? 68).map (·.size) = some (stL ct).size) := hid (info8L.trans (congrArg some (stL_size _).symm))
  have HZ2 : Hid ((stL s).size = (stL ct).size) := hid ((stL_size s).trans (stL_size ct).symm)
  have HO2 := hid (stL_one ct)
  have hS8 : (w7.setRow w.heap.size (stL ct)).heap[w.heap.size]? = some (.cells (stL ct) A8L (0, 0)) := setRow_heap _ _ _ _ _ _ hS7
  have hS9 : ((w7.setRow w.heap.size (stL ct)).alloc (.cells z64 A64B)).heap[w.heap.size]? = some (.cells (stL ct) A8L (0, 0)) := (Below.heap_alloc _ _ _ (by rw [size_setRow]; omega)).trans hS8
  have hR9 : ((w7.setRow w.heap.size (stL ct)).alloc (.cells z64 A64B)).heap[w.heap.size + 1]? = some (.cells z64 A64B (0, 0)) := (Below.heap_alloc _ _ _ (by rw [size_setRow]; omega)).trans ((setRow_other _ _ _ _ (by omega)).trans hR7)
  have hD9 : ((w7.setRow w.heap.size (stL ct)).alloc (.cells z64 A64B)).heap[w7.heap.size]? = some (.cells (dL ct 0) A64B (0, 0)) := by
    have h := heap_alloc_new (w7.setRow w.heap.size (stL ct)) (.cells z64 A64B)
    rw [size_setRow] at h
    rw [h, dL_zero, HZ64.out]
  have hB9 : Below w.heap.size w ((w7.setRow w.heap.size (stL ct)).alloc (.cells z64 A64B)) := (below_setRow hB7 (Nat.le_refl _) _).alloc (by rw [size_setRow]; omega) _
  have hsr : (w7.setRow w.heap.size (stL ct)).heap.size = w7.heap.size := size_setRow _ _ _
  have HS7 := hid hS7; have HS9 := hid hS9; have HR9 := hid hR9; have HD9 := hid hD9; have HB9 := hid hB9; have HCT := hid hct; have HCO := hid hco
  clear hb7 hS7 hR7 hB7 hS8 hS9 hR9 hD9 hB9 hct hco HTH HBW HS6 HR0
  go_wp2_with (first
    | fail
    | (with_reducible refine wpList_store_row rfl 68 (.tmp 3) _ rfl w.heap.size (stL ct) rfl rfl A8L (stL s) HS7.out HI2.out HZ2.out HO2.out ?_)
    | (with_reducible refine wpList_load_row rfl 68 (.tmp 3) rfl w.heap.size rfl A8L (stL ct) (0, 0) _ HS9.out Tryd.underlying68 rfl HI2.out ?_))
  clear hzero hmk
  generalize (w7.setRow w.heap.size (stL ct)).alloc (.cells z64 A64B) = w9 at *
  have hD : w.heap.size + 1 < w7.heap.size := by omega
  generalize w7.heap.size = D at *
  have HIX : Hid (∀ (k x : Nat) (W : World), k < 8 → ct.list[k]? = some x → (Instr.index 68 (.agg (stL ct)) (.int .i64 (k : Int))).run Tryd.prog W = .ok (.int .u64 (x : Int)) W) := hid fun k x W hk hx => index_runL _ k _ hk (stL_get ct k x hx) W
  go_loopg [45] 8 (fun r i wr => ∃ k : Nat, k + r = 8 ∧ i = .int .i64 (k : Int) ∧ wr.heap[D]? = some (.cells (dL ct k) A64B (0, 0)) ∧ wr.heap[w.heap.size + 1]? = some (.cells z64 A64B (0, 0)) ∧ Below w.heap.size w wr)
  case atStart => exact ⟨0, rfl, rfl, HD9.out, HR9.out, HB9.out⟩
  case round =>
    clear HD9 HR9 HB9 HS9
    obtain ⟨k, hk, rfl, hd, hr9, hb⟩ := hrel
    have HD := hid hd; have HR := hid hr9; have HB := hid hb; have HK := hid hk
    have hkb : k ≤ 8 := by omega
    clear hd hr9 hb hk
    by_cases hlt : k < 8
    · have hx8 : (k : Int) < 8 := by omega
      have hk0 : (0 : Int) ≤ (k : Int) := by omega
      obtain ⟨x, hx⟩ : ∃ x, ct.list[k]? = some x := ⟨_, List.getElem?_eq_getElem (show k < 8 from hlt)⟩
      have hxl : x < 18446744073709551616 := St.list_ltL ct HCO.out x (List.mem_of_getElem? hx)
      have hi2 : ∀ W : World, (Instr.index 68 (.agg (stL ct)) (.int .i64 (k : Int))).run Tryd.prog W = .ok (.int .u64 (x : Int)) W := fun W => HIX.out k x W hlt hx
      have hne : ¬ (8 * k = 64) := by omega
      have h8a : (0 : Int) ≤ 8 * (k : Int) := by omega
      have h8b : 8 * (k : Int) ≤ 64 := by omega
      have h8c : (8 * (k : Int)).toNat = 8 * k := by omega
      have HPT := hid (put_any D (8 * k) (64 - 8 * k) (64 - 8 * k) x (dL ct k) A64B wr hxl (by omega) (by omega) HD.out (by rw [dL_size ct k hkb]; omega))
      have hrow := heap_setCells (bvs (beBytes 8 x)) HD.out (8 * k) (by rw [dL_size ct k hkb]; simp; omega)
      rw [dL_next ct k x hlt hx] at hrow
      have HROW := hid hrow
      clear hrow hx
      go_wp2_with fail
      refine HPT.out.mono ?_
      rintro e w10 ⟨rfl, hw10⟩
      have hg10 : wr.grownBy w10 (some D) := by rw [hw10]; exact grown_setCells _ _ _ _
      have hD10 : w10.heap[D]? = some (.cells (dL ct (k + 1)) A64B (0, 0)) := by rw [hw10]; exact HROW.out
      have HG10 := hid hg10; have HD10 := hid hD10
      clear hw10 hg10 hD10
      go_wp2
      have hk := HK.out
      go_roundg (8 - k - 1)
      case measure => omega
      case rel => exact ⟨k + 1, by omega, by go_num, HD10.out, (HG10.out.block _ (block_lt HR.out) (by simp; omega)).trans HR.out, HB.out.grown HG10.out HB.out.size (fun q hq => by injection hq with hq; omega)⟩
    · obtain rfl : k = 8 := by omega
      have hdz : (dL ct 8).size = 64 := dL_size ct 8 (by omega)
      have HI3 : Hid ((Tryd.prog.info? 30).map (·.size) = some (dL ct 8).size) := hid (info64B.trans (congrArg some hdz.symm))
      have HZ3 : Hid (z64.size = (dL ct 8).size) := hid (HZS.out.trans hdz.symm)
      have HO3 : Hid ((dL ct 8).all (·.oneCell') = true) := hid (by rw [dL_end]; exact byA_one _)
      clear hdz
      go_wp2_with (first
        | (with_reducible refine wpList_load_row rfl 30 (.tmp 9) rfl D rfl A64B (dL ct 8) (0, 0) _ HD.out Tryd.underlying30 rfl HI3.out ?_)
        | (with_reducible refine wpList_store_row rfl 30 (.tmp 6) _ rfl (w.heap.size + 1) (dL ct 8) rfl rfl A64B z64 HR.out HI3.out HZ3.out HO3.out ?_))
      refine bodyPost_ret (v := .agg (dL ct 8)) (results_cell_row rfl _ _ (w.heap.size + 1) A64B (dL ct 8) (0, 0) _ rfl (setRow_heap _ _ _ _ _ _ HR.out) Tryd.underlying30 rfl HI3.out) rfl ⟨by rw [dL_end, HCT.out], ?_⟩
      exact below_setRow HB.out (by omega) _
end Go.Proofs.YtokggppfobbblaaDoor
