/-
  The document's own expansion with a label; its name for bytes.
-/
import Derived.Test.YtpdkpadpdkagoaaDoorRef05
import Derived.Test.YtpdkpadpdkagoaaDoorRef01
import Derived.Test.YtpdkpadpdkagoaaDoorKdf2
namespace Go.Proofs.YtpdkpadpdkagoaaDoor
open Go.RowKit
set_option linter.unusedVariables false
set_option linter.unusedSimpArgs false

theorem RefVec_n (A : Option Addr) (ys : List UInt8) (m c : Nat) (w : World) (hy : ys.length = m) (hn : m < 1073741824) (hA : Lie w w.heap.size A (bvs ys)) :
    Calls Tryd.prog 23 #[.slice A m c] w fun e w' => ∃ v, e = .returned v ∧ OwnB w' w.heap.size v (vecBytes ys) ∧ w.grownBy w' none := by
  subst hy
  exact RefVec_any A ys c w hn hA
theorem below_of_none {w w' : World} (h : w.grownBy w' none) : Below w.heap.size w w' := below_of_grown h (Nat.le_refl _) (fun _ h => by cases h)

set_option maxRecDepth 100000 in
set_option maxHeartbeats 800000 in
theorem ref5_label (A : Option Addr) (key : List UInt8) (c : Nat) (s : ByteArray) (A' : Option Addr) (ctx : List UInt8) (c' n : Nat) (w : World) (hA : Sq w w.heap.size A c (bvs key)) (hA' : Lie w w.heap.size A' (bvs ctx))
    (hn : n ≤ 8160) (hk : key.length ≤ 1000000000) (hs : s.size ≤ 1048576) (hl : ctx.length ≤ 1048576) :
    Calls Tryd.prog 13 #[.slice A key.length c, .string s, .slice A' ctx.length c', .int .i64 (n : Int)] w fun e w' => ∃ A2 c2, e = .returned (.slice A2 n c2) ∧ Lie w' w'.heap.size A2 (bvs (kdfB key (labB (sby s) ctx n) n)) ∧ Below w.heap.size w w' := by
  have HN := hid (RefNum_any 2 n w (by omega) (by omega))
  have HA := hid hA; have HA' := hid hA'
  clear hA hA'
  have hcv := run_bytes
  have hmls := fun W => run_mls W s hs
  go_enter Tryd.func13, Tryd.ntmps13
  go_wp2_with fail
  refine HN.out.mono ?_
  rintro e w1 ⟨v1, rfl, ho1, hg1⟩
  obtain ⟨A1, c1, rfl, hS1⟩ := own_sl ho1
  rw [beBytes_length]
  have hb1 := below_of_none hg1
  have HO1 : Hid (w1.ownsRow w.heap.size 5 1 (.slice A1 2 c1) 2 (bvs (beBytes 2 n))) := hid (by have h := ho1; unfold OwnB at h; rwa [beBytes_length] at h)
  have hz1 : w.heap.size ≤ w1.heap.size := hb1.size
  have hbs := strW_below w1 (mlsS s)
  have HV := hid (RefVec_n (some ⟨w1.heap.size, 0, none⟩) (sby (mlsS s)) (mlsS s).size (grownCap w1 (mlsS s).size 0 U8) (strW w1 (mlsS s)) (sby_length _) (by rw [mlsS_size]; omega) (strW_lie _ _))
  rw [mlsS_sby] at HV
  have HBS := hid hbs; have HB1 := hid hb1
  clear ho1 hg1 hS1 hb1 hbs HN
  go_wp2_with fail
  refine HV.out.mono ?_
  rintro e w2 ⟨v2, rfl, ho2, hg2⟩
  obtain ⟨A2, c2, rfl, hS2⟩ := own_sl ho2
  obtain ⟨L2, hL2⟩ : ∃ L, L = (vecBytes (mlsB ++ sby s)).length := ⟨_, rfl⟩
  rw [← hL2]
  have hl2 : L2 ≤ 1048588 := by
    have := vecBytes_le (mlsB ++ sby s)
    rw [List.length_append, sby_length, show mlsB.length = 8 from rfl] at this
    omega
  have hb12 : Below w1.heap.size w1 w2 := HBS.out.trans ((below_of_none hg2).mono HBS.out.size)
  have hB2 : Below w.heap.size w w2 := HB1.out.trans (hb12.mono hz1)
  have HO1' : Hid (w2.ownsRow w.heap.size 5 1 (.slice A1 2 c1) 2 (bvs (beBytes 2 n))) := hid (World.ownsRow.kept HO1.out (grown_of_below hb12) (Classical.em _))
  have HL2 := hid hS2.lie; have HB2 := hid hB2; have HLL : Hid ((bvs (vecBytes (mlsB ++ sby s))).length = L2) := hid (by rw [bvs_length, hL2])
  clear ho2 hg2 hS2 hL2 hb12 hB2 HO1 HV HBS HB1 hmls hcv
  go_wp2_with (at_builtin; go_loud (refine wpList_append_lie rfl (.tmp 13) (.tmp 17) 22 rfl w.heap.size 5 (.int .u8 0) 1 Tryd.underlying22 infoU8 rfl rfl HO1'.out HLL.out rfl HL2.out (bvs_one _) ?a1 ?a2 ?a3 ?_))
  case a1 => unfold maxLen; omega
  case a2 => omega
  case a3 => exact HB2.out.size
  intro v3 w3 hown3 hg3 hat3
  obtain ⟨A3, c3, hv3, _⟩ := own_sl hown3
  subst hv3
  have HO3 : Hid (w3.ownsRow w.heap.size 5 1 (.slice A3 (2 + L2) c3) (2 + L2) (bvs (beBytes 2 n ++ vecBytes (mlsB ++ sby s)))) := hid (by rw [bvs_append]; exact hown3)
  obtain ⟨L3, hL3⟩ : ∃ L, L = 2 + L2 := ⟨_, rfl⟩
  rw [← hL3] at HO3
  rw [← hL3]
  have HB3 := hid (HB2.out.grown hg3 HB2.out.size (fun q h => own_lt HO1'.out q h))
  have HV3 := hid (RefVec_n A' ctx ctx.length c' w3 rfl (by omega) ((HA'.out.below HB3.out).more HB3.out.size))
  have hl3 : L3 ≤ 1048590 := by omega
  clear hown3 hg3 hat3 HO1' HL2 HB2 HLL hL3
  go_wp2_with fail
  refine HV3.out.mono ?_
  rintro e w4 ⟨v4, rfl, ho4, hg4⟩
  obtain ⟨A4, c4, rfl, hS4⟩ := own_sl ho4
  obtain ⟨L4, hL4⟩ : ∃ L, L = (vecBytes ctx).length := ⟨_, rfl⟩
  rw [← hL4]
  have hl4 : L4 ≤ 1048588 := by have := vecBytes_le ctx; omega
  have HO4 : Hid (w4.ownsRow w.heap.size 5 1 (.slice A3 L3 c3) L3 (bvs (beBytes 2 n ++ vecBytes (mlsB ++ sby s)))) := hid (World.ownsRow.kept HO3.out hg4 (by cases hv : (Value.slice A3 L3 c3).ownBlock <;> simp))
  have HL4 := hid hS4.lie; have HB4 := hid (HB3.out.trans ((below_of_none hg4).mono HB3.out.size)); have HLL : Hid ((bvs (vecBytes ctx)).length = L4) := hid (by rw [bvs_length, hL4])
  clear ho4 hg4 hS4 hL4 HO3 HB3 HV3
  go_wp2_with (at_builtin; go_loud (refine wpList_append_lie rfl (.tmp 20) (.tmp 22) 22 rfl w.heap.size 5 (.int .u8 0) 1 Tryd.underlying22 infoU8 rfl rfl HO4.out HLL.out rfl HL4.out (bvs_one _) ?b1 ?b2 ?b3 ?_))
  case b1 => unfold maxLen; omega
  case b2 => omega
  case b3 => exact HB4.out.size
  intro v5 w5 hown5 hg5 hat5
  obtain ⟨A5, c5, hv5, hS5⟩ := own_sl hown5
  subst hv5
  obtain ⟨L5, hL5⟩ : ∃ L, L = L3 + L4 := ⟨_, rfl⟩
  rw [← hL5]
  have hB5 := HB4.out.grown hg5 HB4.out.size (fun q h => own_lt HO4.out q h)
  have hlab : (labB (sby s) ctx n).length = L5 := by
    have h := hown5.1
    rw [← bvs_append, bvs_length, Nat.mul_one] at h
    rw [hL5, ← h]
    rfl
  have hS5' : Sq w5 w5.heap.size A5 c5 (bvs (labB (sby s) ctx n)) := by
    have h := hS5.sq
    rw [← bvs_append] at h
    exact h
  have HX := ref5_expand A key c A5 (labB (sby s) ctx n) c5 n w5 ((HA.out.below hB5).more hB5.size) hS5' hn hk (by omega)
  rw [hlab] at HX
  have HX := hid HX; have HB5 := hid hB5
  clear hown5 hg5 hat5 hS5 hL5 hB5 hlab hS5' HO4 HL4 HB4 HLL
  go_wp2_with fail
  refine HX.out.mono ?_
  rintro e w6 ⟨A6, c6, rfl, hl6, hb6⟩
  have HBE := hid (HB5.out.trans (hb6.mono HB5.out.size))
  have HLE := hid hl6
  clear hl6 hb6 HX
  go_wp2
  go_ret
  exact ⟨A6, c6, rfl, HLE.out, HBE.out⟩

set_option maxRecDepth 100000 in
set_option maxHeartbeats 800000 in
theorem ref5_ref (s : ByteArray) (A' : Option Addr) (b : List UInt8) (c' : Nat) (w : World) (hs : s.size ≤ 1048576) (hA' : Lie w w.heap.size A' (bvs b)) (hl : b.length ≤ 1048576) :
    Calls Tryd.prog 16 #[.string s, .slice A' b.length c'] w fun e w' => ∃ v, e = .returned v ∧ OwnB w' w.heap.size v (refB (sby s) b) ∧ Below w.heap.size w w' := by
  have HA' := hid hA'
  clear hA'
  have hcv := run_bytes
  have hbs := strW_below w s
  have HV := hid (RefVec_n (some ⟨w.heap.size, 0, none⟩) (sby s) s.size (grownCap w s.size 0 U8) (strW w s) (sby_length _) (by omega) (strW_lie _ _))
  have HB := hid hbs
  clear hbs
  go_enter Tryd.func16, Tryd.ntmps16
  go_wp2_with fail
  refine HV.out.mono ?_
  rintro e w1 ⟨v1, rfl, ho1, hg1⟩
  obtain ⟨A1, c1, rfl, hS1⟩ := own_sl ho1
  obtain ⟨L1, hL1⟩ : ∃ L, L = (vecBytes (sby s)).length := ⟨_, rfl⟩
  rw [← hL1]
  have hl1 : L1 ≤ 1048580 := by have := vecBytes_le (sby s); rw [sby_length] at this; omega
  have hb1 := below_of_none hg1
  have hB1 : Below w.heap.size w w1 := HB.out.trans (hb1.mono HB.out.size)
  have HX := hid (RefVec_n A' b b.length c' w1 rfl (by omega) ((HA'.out.below hB1).more hB1.size))
  have HO1 : Hid (w1.ownsRow w.heap.size 5 1 (.slice A1 L1 c1) L1 (bvs (vecBytes (sby s)))) := hid (by have h := own_base ho1 HB.out.size; unfold OwnB at h; rwa [← hL1] at h)
  have HB1 := hid hB1
  clear ho1 hg1 hS1 hL1 hb1 hB1 HV HB
  go_wp2_with fail
  refine HX.out.mono ?_
  rintro e w2 ⟨v2, rfl, ho2, hg2⟩
  obtain ⟨A2, c2, rfl, hS2⟩ := own_sl ho2
  obtain ⟨L2, hL2⟩ : ∃ L, L = (vecBytes b).length := ⟨_, rfl⟩
  rw [← hL2]
  have hl2 : L2 ≤ 1048580 := by have := vecBytes_le b; omega
  have HO2 : Hid (w2.ownsRow w.heap.size 5 1 (.slice A1 L1 c1) L1 (bvs (vecBytes (sby s)))) := hid (World.ownsRow.kept HO1.out hg2 (by cases hv : (Value.slice A1 L1 c1).ownBlock <;> simp))
  have HL2 := hid hS2.lie; have HB2 := hid (HB1.out.trans ((below_of_none hg2).mono HB1.out.size)); have HLL : Hid ((bvs (vecBytes b)).length = L2) := hid (by rw [bvs_length, hL2])
  clear ho2 hg2 hS2 hL2 HO1 HB1 HX
  go_wp2_with (at_builtin; go_loud (refine wpList_append_lie rfl (.tmp 7) (.tmp 9) 22 rfl w.heap.size 5 (.int .u8 0) 1 Tryd.underlying22 infoU8 rfl rfl HO2.out HLL.out rfl HL2.out (bvs_one _) ?b1 ?b2 ?b3 ?_))
  case b1 => unfold maxLen; omega
  case b2 => omega
  case b3 => exact HB2.out.size
  intro v3 w3 hown3 hg3 hat3
  obtain ⟨A3, c3, hv3, hS3⟩ := own_sl hown3
  subst hv3
  have hB3 := HB2.out.grown hg3 HB2.out.size (fun q h => own_lt HO2.out q h)
  obtain ⟨L3, hL3⟩ : ∃ L, L = L1 + L2 := ⟨_, rfl⟩
  rw [← hL3]
  have hlen : (vecBytes (sby s) ++ vecBytes b).length = L3 := by
    have h := hown3.1
    rw [← bvs_append, bvs_length, Nat.mul_one] at h
    rw [hL3, ← h]
  have hS3' : Sq w3 w3.heap.size A3 c3 (bvs (vecBytes (sby s) ++ vecBytes b)) := by
    have h := hS3.sq
    rw [← bvs_append] at h
    exact h
  have HD := ref2_digest A3 (vecBytes (sby s) ++ vecBytes b) c3 w3 (by omega) hS3'
  rw [hlen] at HD
  have HD := hid HD; have HB3 := hid hB3
  clear hown3 hg3 hat3 hS3 hB3 hlen hS3' hL3 HO2 HL2 HLL HB2
  go_wp2_with fail
  refine HD.out.mono ?_
  rintro e w4 ⟨v4, rfl, ho4, hb4⟩
  have HO := hid (own_base ho4 HB3.out.size); have HBE := hid (HB3.out.trans (hb4.mono HB3.out.size))
  clear ho4 hb4 HD
  go_wp2
  go_ret
  exact ⟨_, rfl, HO.out, HBE.out⟩
end Go.Proofs.YtpdkpadpdkagoaaDoor
