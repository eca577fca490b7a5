/-
  Texts of this claim in one file: Ref10b.
-/
import Derived.Test.YtheamlhhfkaknaaGreatDoorPk14
import Derived.Test.YtheamlhhfkaknaaGreatDoorPk3
section
namespace Go.Proofs.YtheamlhhfkaknaaGreatDoor
open Go Go.RowKit
set_option linter.unusedVariables false
set_option linter.unusedSimpArgs false
set_option maxHeartbeats 1000000 in
theorem Digest10_any (A : Option Addr) (xs : List UInt8) (c : Nat) (A' : Option Addr) (ys : List UInt8) (c' : Nat) (A'' : Option Addr) (zs : List UInt8) (c'' : Nat) (w : World) (hS : Sq w w.heap.size A c (bvs xs)) (hS' : Sq w w.heap.size A' c' (bvs ys)) (hS'' : Sq w w.heap.size A'' c'' (bvs zs)) (hl : xs.length + ys.length + zs.length ≤ 10000) :
    Calls Tryz.prog 12 #[.slice A xs.length c, .slice A' ys.length c', .slice A'' zs.length c''] w (BigR w (ofL (longB ((([] ++ xs) ++ ys) ++ zs)))) := by
  have HS := hid hS; have HS' := hid hS'; have HS'' := hid hS''; have HL := hid hl
  clear hS hS' hS'' hl
  obtain ⟨X0, hX0⟩ : ∃ l_ : List UInt8, l_ = ([] : List UInt8) ++ xs := ⟨_, rfl⟩
  have EX0 := hid hX0
  have LX0 : Hid (X0.length ≤ 10000) := hid (by rw [hX0]; have := HL.out; simp only [List.length_append, List.length_nil]; omega)
  obtain ⟨X1, hX1⟩ : ∃ l_ : List UInt8, l_ = X0 ++ ys := ⟨_, rfl⟩
  have EX1 := hid hX1
  have LX1 : Hid (X1.length ≤ 10000) := hid (by rw [hX1]; have := HL.out; rw [EX0.out]; simp only [List.length_append, List.length_nil]; omega)
  obtain ⟨X2, hX2⟩ : ∃ l_ : List UInt8, l_ = X1 ++ zs := ⟨_, rfl⟩
  have EX2 := hid hX2
  have LX2 : Hid (X2.length ≤ 10000) := hid (by rw [hX2]; have := HL.out; rw [EX1.out]; rw [EX0.out]; simp only [List.length_append, List.length_nil]; omega)
  obtain ⟨X3, hX3⟩ : ∃ l_ : List UInt8, l_ = longB X2 := ⟨_, rfl⟩
  have EX3 := hid hX3
  have LX3 : Hid (X3.length ≤ 10000) := hid (by rw [hX3]; rw [longB_64]; decide)
  have KSUM : Hid (∀ (A : Option Addr) (c : Nat) (W : World), Sq W W.heap.size A c (bvs X2) → Calls Tryz.prog 33 #[.slice A X2.length c] W fun e w' => ∃ v, e = .returned v ∧ OwnB w' W.heap.size v X3 ∧ Below W.heap.size W w') := hid fun A c W h => by rw [EX3.out]; exact sum3_any A X2 c W (by have := LX2.out; omega) h
  have KOF : Hid (∀ (A : Option Addr) (c : Nat) (W : World), Sq W W.heap.size A c (bvs X3) → Calls Tryz.prog 34 #[.slice A X3.length c] W (BigR W (ofL X3))) := hid fun A c W h => Of8_any A X3 c W h (by rw [EX3.out, longB_64]; decide)
  rw [← hX0, ← hX1, ← hX2, ← hX3]
  clear hX0 hX1 hX2 hX3
  go_enter Tryz.func12, Tryz.ntmps12
  have S0 : Hid (St w w [] []) := hid (St.start w)
  go_upto_region 0 with fail
  refine wpLA_start ?_
  refine wpLA_take (.slice none 0 0) (yG_val _ (by rfl) (fun w' _ => by (go_simp; try rfl))) ?_
  (try simp only [Act.put, List.getElem_toArray, List.getElem_cons_succ, List.getElem_cons_zero, List.setIfInBounds_toArray, List.set_cons_zero, List.set_cons_succ])
  refine wpLA_end ?_
  intro w1 hb
  have S1 := hid (S0.out.on hb)
  clear hb S0
  go_upto_region 1 with fail
  refine wpLA_start ?_
  refine wpLA_empty (by rfl) (fun w' => by (go_simp; try rfl)) ?_
  intro p2 w2 hb ho
  have HB2 : Hid (Below w1.heap.size w1 w2) := hid hb
  have O2 := hid ho
  have S2 : Hid (St w w2 [] []) := hid (S1.out.on hb)
  clear hb ho
  (try simp only [Act.put, List.getElem_toArray, List.getElem_cons_succ, List.getElem_cons_zero, List.setIfInBounds_toArray, List.set_cons_zero, List.set_cons_succ])
  refine wpLA_take (.slice A (xs.length) c) (yG_val _ (by rfl) (fun w' _ => by (go_simp; try rfl))) ?_
  (try simp only [Act.put, List.getElem_toArray, List.getElem_cons_succ, List.getElem_cons_zero, List.setIfInBounds_toArray, List.set_cons_zero, List.set_cons_succ])
  refine wpLA_append EX0.out (B := w1.heap.size) (xs := ([] : List UInt8)) (ys := xs) (by rfl) _ _ _ rfl Tryz.underlying22 infoU8 rfl O2.out rfl rfl ((HS.out.on6 S2.out.below)) (by have := LX0.out; rw [EX0.out] at this; simp only [List.length_append, List.length_nil] at this ⊢; omega) HB2.out.size ?_
  intro A3 c3 w3 ho hb
  have HB3 := hid (HB2.out.trans hb)
  have O3 := hid ho
  have S3 : Hid (St w w3 [] [(A3, c3, bvs X0)]) := hid ((S1.out.on HB3.out).more (ownB_sq ho))
  clear ho hb S2 HB2 O2
  (try simp only [Act.put, List.getElem_toArray, List.getElem_cons_succ, List.getElem_cons_zero, List.setIfInBounds_toArray, List.set_cons_zero, List.set_cons_succ])
  refine wpLA_take (.slice A' (ys.length) c') (yG_val _ (by rfl) (fun w' _ => by (go_simp; try rfl))) ?_
  (try simp only [Act.put, List.getElem_toArray, List.getElem_cons_succ, List.getElem_cons_zero, List.setIfInBounds_toArray, List.set_cons_zero, List.set_cons_succ])
  refine wpLA_append EX1.out (B := w1.heap.size) (xs := X0) (ys := ys) (by rfl) _ _ _ rfl Tryz.underlying22 infoU8 rfl O3.out rfl rfl ((HS'.out.on6 S3.out.below)) (by have := LX1.out; rw [EX1.out] at this; simp only [List.length_append, List.length_nil] at this ⊢; omega) HB3.out.size ?_
  intro A4 c4 w4 ho hb
  have HB4 := hid (HB3.out.trans hb)
  have O4 := hid ho
  have S4 : Hid (St w w4 [] [(A4, c4, bvs X1)]) := hid ((S1.out.on HB4.out).more (ownB_sq ho))
  clear ho hb S3 HB3 O3
  (try simp only [Act.put, List.getElem_toArray, List.getElem_cons_succ, List.getElem_cons_zero, List.setIfInBounds_toArray, List.set_cons_zero, List.set_cons_succ])
  refine wpLA_take (.slice A'' (zs.length) c'') (yG_val _ (by rfl) (fun w' _ => by (go_simp; try rfl))) ?_
  (try simp only [Act.put, List.getElem_toArray, List.getElem_cons_succ, List.getElem_cons_zero, List.setIfInBounds_toArray, List.set_cons_zero, List.set_cons_succ])
  refine wpLA_append EX2.out (B := w1.heap.size) (xs := X1) (ys := zs) (by rfl) _ _ _ rfl Tryz.underlying22 infoU8 rfl O4.out rfl rfl ((HS''.out.on6 S4.out.below)) (by have := LX2.out; rw [EX2.out] at this; simp only [List.length_append, List.length_nil] at this ⊢; omega) HB4.out.size ?_
  intro A5 c5 w5 ho hb
  have HB5 := hid (HB4.out.trans hb)
  have O5 := hid ho
  have S5 : Hid (St w w5 [] [(A5, c5, bvs X2)]) := hid ((S1.out.on HB5.out).more (ownB_sq ho))
  clear ho hb S4 HB4 O4
  (try simp only [Act.put, List.getElem_toArray, List.getElem_cons_succ, List.getElem_cons_zero, List.setIfInBounds_toArray, List.set_cons_zero, List.set_cons_succ])
  refine wpLA_bytes (X3) (by rfl) (fun w' => by go_simp) (fun w' hb => KSUM.out _ _ w' (S5.out.on hb).sq.1) ?_
  intro A6 c6 w6 hb hs
  have HB6 := hid (HB5.out.trans (hb.mono HB5.out.size))
  have O6 := hid (ownB_on O5.out hb)
  clear HB5 O5
  have S6 : Hid (St w w6 [] [(A6, c6, bvs (X3)), (A5, c5, bvs X2)]) := hid ((S5.out.on hb).more hs)
  clear hb hs S5
  (try simp only [Act.put, List.getElem_toArray, List.getElem_cons_succ, List.getElem_cons_zero, List.setIfInBounds_toArray, List.set_cons_zero, List.set_cons_succ])
  refine wpLA_big (ofL X3) (by rfl) (fun w' => by go_simp) (fun w' hb => KOF.out _ _ w' (S6.out.on hb).sq.1) ?_
  intro A7 c7 w7 hb hs
  have HB7 := hid (HB6.out.trans (hb.mono HB6.out.size))
  have O7 := hid (ownB_on O6.out hb)
  clear HB6 O6
  have S7 : Hid (St w w7 [] [(A7, c7, ivs (dg (ofL X3))), (A6, c6, bvs (X3)), (A5, c5, bvs X2)]) := hid ((S6.out.on hb).more hs)
  clear hb hs S6
  (try simp only [Act.put, List.getElem_toArray, List.getElem_cons_succ, List.getElem_cons_zero, List.setIfInBounds_toArray, List.set_cons_zero, List.set_cons_succ])
  refine wpLA_take (.slice A7 ((dg (ofL X3)).length) c7) (yG_val _ (by rfl) (fun w' _ => by (go_simp; try rfl))) ?_
  (try simp only [Act.put, List.getElem_toArray, List.getElem_cons_succ, List.getElem_cons_zero, List.setIfInBounds_toArray, List.set_cons_zero, List.set_cons_succ])
  refine wpLA_end ?_
  intro w8 hb
  have S8 := hid (S7.out.on hb)
  clear hb S7
  go_wp2_with fail
  go_ret
  exact ⟨_, _, rfl, S8.out.sq.1, S8.out.below⟩
end Go.Proofs.YtheamlhhfkaknaaGreatDoor
end
