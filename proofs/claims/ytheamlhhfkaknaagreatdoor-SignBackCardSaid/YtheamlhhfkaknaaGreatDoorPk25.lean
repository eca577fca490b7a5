/-
  Texts of this claim in one file: Ref10c.
-/
import Derived.Test.YtheamlhhfkaknaaGreatDoorPk11
import Derived.Test.YtheamlhhfkaknaaGreatDoorPk14
import Derived.Test.YtheamlhhfkaknaaGreatDoorPk3
section
namespace Go.Proofs.YtheamlhhfkaknaaGreatDoor
open Go Go.RowKit
set_option linter.unusedVariables false
set_option linter.unusedSimpArgs false
theorem textB_length (l ys : List UInt8) (hl : l.length ≤ 100) (hy : ys.length ≤ 400) : (textB l ys).length ≤ 516 := by
  have h1 := vecBytes_le (mlsB ++ l)
  have h2 := vecBytes_le ys
  unfold textB
  rw [List.length_append] at *
  have : mlsB.length = 8 := rfl
  omega
set_option maxHeartbeats 1000000 in
theorem Text10_any (s : ByteArray) (A : Option Addr) (ys : List UInt8) (c : Nat) (w : World) (hS : Sq w w.heap.size A c (bvs ys)) (hs : s.size ≤ 100) (hy : ys.length ≤ 400) :
    Calls Tryz.prog 24 #[.string s, .slice A ys.length c] w fun e w' => ∃ v, e = .returned v ∧ OwnB w' w.heap.size v (textB (sby s) ys) ∧ Below w.heap.size w w' := by
  have HS := hid hS
  have hcv := run_bytes
  have hmls := fun W => run_mls W s (by omega)
  have hbs := strW_below w (mlsS s)
  have HV := hid (RefVec_n (some ⟨w.heap.size, 0, none⟩) (sby (mlsS s)) (mlsS s).size (grownCap w (mlsS s).size 0 U8) (strW w (mlsS s)) (sby_length _) (by rw [mlsS_size]; omega) (strW_lie _ _))
  rw [mlsS_sby] at HV
  obtain ⟨v1l, hv1l⟩ : ∃ l, l = vecBytes (mlsB ++ sby s) := ⟨_, rfl⟩
  obtain ⟨v2l, hv2l⟩ : ∃ l, l = vecBytes ys := ⟨_, rfl⟩
  have hT : textB (sby s) ys = v1l ++ v2l := by rw [hv1l, hv2l]; rfl
  have hl1 : v1l.length ≤ 200 := by
    have := vecBytes_le (mlsB ++ sby s)
    rw [hv1l]
    rw [List.length_append, sby_length] at this
    have : mlsB.length = 8 := rfl
    omega
  have hl2 : v2l.length ≤ 500 := by
    have := vecBytes_le ys
    rw [hv2l]
    omega
  obtain ⟨L1, hL1⟩ : ∃ L, L = v1l.length := ⟨_, rfl⟩
  obtain ⟨L2, hL2⟩ : ∃ L, L = v2l.length := ⟨_, rfl⟩
  rw [← hv1l] at HV
  rw [hT]
  have HV2 : Hid (∀ W, Sq W W.heap.size A c (bvs ys) → Calls Tryz.prog 50 #[.slice A ys.length c] W fun e w' => ∃ v, e = .returned v ∧ OwnB w' W.heap.size v v2l ∧ W.grownBy w' none) := hid fun W h => by rw [hv2l]; exact RefVec_n A ys _ c W rfl (by omega) h.lie
  have HBS := hid hbs; have HL : Hid (L1 ≤ 200 ∧ L2 ≤ 500 ∧ v1l.length = L1 ∧ v2l.length = L2) := hid (by omega)
  clear hS hT hv1l hv2l hbs hs hy hl1 hl2 hL1 hL2
  go_enter Tryz.func24, Tryz.ntmps24
  go_wp2_with fail
  refine HV.out.mono ?_
  rintro e w1 ⟨v1, rfl, ho1, hg1⟩
  have hb1 : Below w.heap.size w w1 := HBS.out.trans ((below_of_none hg1).mono HBS.out.size)
  obtain ⟨A1, c1, rfl, -⟩ := own_sl ho1
  have HO1 : Hid (w1.ownsRow w.heap.size 5 1 (.slice A1 v1l.length c1) v1l.length (bvs v1l)) := hid (own_base ho1 HBS.out.size)
  have HB1 := hid hb1
  clear ho1 hg1 hb1 HV HBS hcv hmls
  go_wp2_with fail
  refine (HV2.out _ (HS.out.on6 HB1.out)).mono ?_
  rintro e w2 ⟨v2, rfl, ho2, hg2⟩
  have hb2 := below_of_none hg2
  obtain ⟨A2, c2, rfl, hS2⟩ := own_sl ho2
  have HO2 : Hid (w2.ownsRow w.heap.size 5 1 (.slice A1 v1l.length c1) v1l.length (bvs v1l)) := hid (World.ownsRow.kept HO1.out (grownF hb2) (Classical.em _))
  have HL2 := hid hS2.lie; have HB2 := hid (HB1.out.trans (hb2.mono HB1.out.size))
  clear ho2 hg2 hS2 hb2 HO1 HB1 HV2
  go_wp2_with (at_builtin; refine wpList_append_lie rfl _ _ 22 rfl w.heap.size 5 (.int .u8 0) 1 Tryz.underlying22 infoU8 rfl rfl HO2.out (bvs_length v2l) rfl HL2.out (bvs_one _) ?a1 ?a2 ?a3 ?_)
  case a1 => have := HL.out; unfold maxLen; omega
  case a2 => have := HL.out; omega
  case a3 => exact HB2.out.size
  intro v3 w3 ho3 hg3 _
  have hb3 : Below w.heap.size w w3 := HB2.out.grown hg3 HB2.out.size (own_lt HO2.out)
  have h3 : OwnB w3 w.heap.size v3 (v1l ++ v2l) := by
    unfold OwnB
    rw [List.length_append]
    simpa [bvs] using ho3
  have H3 := hid h3; have HB3 := hid hb3
  clear ho3 hg3 hb3 h3 HO2 HB2 HL2
  go_wp2_with fail
  go_ret
  exact ⟨_, rfl, H3.out, HB3.out⟩
end Go.Proofs.YtheamlhhfkaknaaGreatDoor
end
