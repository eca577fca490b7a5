/-
  Texts of this claim in one file: Law10a, Law10b, Law10d.
-/
import Derived.Test.YtheamlhhfkaknaaGreatDoorPk23
import Derived.Test.YtheamlhhfkaknaaGreatDoorPk11
import Derived.Test.YtheamlhhfkaknaaGreatDoorPk3
import Derived.Test.YtheamlhhfkaknaaGreatDoorPk22
import Derived.Test.YtheamlhhfkaknaaGreatDoorPk25
section
namespace Go.Proofs.YtheamlhhfkaknaaGreatDoor
open Go Go.RowKit
set_option linter.unusedVariables false
set_option linter.unusedSimpArgs false
set_option maxHeartbeats 1000000 in
theorem alive10_any (w : World) (hG : GlobL w) : Calls Tryz.prog 5 #[] w fun e w' => e = .returned (.bool true) ∧ Below w.heap.size w w' := by
  have HG := hid hG
  have hl : zB.length = 32 := List.length_replicate
  have KP : Hid (∀ (A : Option Addr) (c : Nat) (W : World), GlobL W → Sq W W.heap.size A c (bvs zB) → Calls Tryz.prog 6 #[.slice A 32 c] W (SgR W (some (pubB zB)))) := hid fun A c W hG h => by
    have := SgPublic A zB c W hG h (by rw [hl]; decide)
    unfold pubO at this; rw [if_pos hl, hl] at this; exact this
  have HPB := hid zB_at
  obtain ⟨PB, ePB⟩ : ∃ l, l = pubB zB := ⟨_, rfl⟩
  have LPB : Hid (PB.length = 32) := hid (by rw [ePB]; exact pubB_length _)
  have KH : Hid (∀ (A : Option Addr) (c : Nat) (A2 : Option Addr) (c2 : Nat) (W : World), GlobL W → Sq W W.heap.size A c (bvs PB) → Sq W W.heap.size A2 c2 (bvs (List.replicate 63 0)) → Calls Tryz.prog 25 #[.slice A 32 c, .slice none 0 0, .slice A2 63 c2] W fun e w' => e = .returned (.bool false) ∧ Below W.heap.size W w') := hid fun A c A2 c2 W hG h h' => by
    have := SgHolds_len A PB c none [] 0 A2 (List.replicate 63 0) c2 W hG h Sq.nil h' (by decide)
    rw [LPB.out] at this
    exact this
  rw [← ePB] at KP HPB
  clear hG hl ePB
  go_enter Tryz.func5, Tryz.ntmps5
  have S0 : Hid (St w w [] []) := hid (St.start w)
  go_upto_region 0 with fail
  refine wpLA_start ?_
  refine wpLA_take (.bool false) (yG_val _ (by rfl) (fun w' _ => by (go_simp; try rfl))) ?_
  (try simp only [Act.put, List.getElem_toArray, List.getElem_cons_succ, List.getElem_cons_zero, List.setIfInBounds_toArray, List.set_cons_zero, List.set_cons_succ])
  refine wpLA_end ?_
  intro w1 hb
  have S1 := hid (S0.out.on hb)
  clear hb S0
  go_upto_region 1 with fail
  refine wpLA_start ?_
  refine wpLA_make 32 (by rfl) _ _ _ rfl rfl rfl Tryz.underlying22 infoU8 (by decide) ?_
  intro p2 w2 hb hs
  have S2 : Hid (St w w2 [] [((some ⟨p2, 0, none⟩), 32, bvs (List.replicate 32 0))]) := hid ((S1.out.on hb).more hs)
  clear hb hs S1
  (try simp only [Act.put, List.getElem_toArray, List.getElem_cons_succ, List.getElem_cons_zero, List.setIfInBounds_toArray, List.set_cons_zero, List.set_cons_succ])
  refine wpLA_sgS (xs := PB) (n := 32) LPB.out (by decide) (by rfl) (fun w' => by go_simp) (fun w' hb => KP.out _ _ w' (HG.out.below (S2.out.on hb).below (Nat.le_refl _)) (S2.out.on hb).sq.1) ?_
  intro b3 o3 c3 w3 hb hs
  have S3 : Hid (St w w3 [] [((some ⟨b3, o3, none⟩), c3, bvs (PB)), ((some ⟨p2, 0, none⟩), 32, bvs (List.replicate 32 0))]) := hid ((S2.out.on hb).more hs)
  clear hb hs S2
  (try simp only [Act.put, List.getElem_toArray, List.getElem_cons_succ, List.getElem_cons_zero, List.setIfInBounds_toArray, List.set_cons_zero, List.set_cons_succ])
  refine wpLA_take (.tuple #[(.slice (some ⟨b3, o3, none⟩) 32 c3), (.int .u8 0)]) (yG_val _ (by rfl) (fun w' _ => by (go_simp; try rfl))) ?_
  (try simp only [Act.put, List.getElem_toArray, List.getElem_cons_succ, List.getElem_cons_zero, List.setIfInBounds_toArray, List.set_cons_zero, List.set_cons_succ])
  refine wpLA_take (.slice (some ⟨b3, o3, none⟩) 32 c3) (yG_val _ (by rfl) (fun w' _ => by (go_simp; try rfl))) ?_
  (try simp only [Act.put, List.getElem_toArray, List.getElem_cons_succ, List.getElem_cons_zero, List.setIfInBounds_toArray, List.set_cons_zero, List.set_cons_succ])
  refine wpLA_take (.int .u8 0) (yG_val _ (by rfl) (fun w' _ => by (go_simp; try rfl))) ?_
  (try simp only [Act.put, List.getElem_toArray, List.getElem_cons_succ, List.getElem_cons_zero, List.setIfInBounds_toArray, List.set_cons_zero, List.set_cons_succ])
  refine wpLA_take (.slice (some ⟨b3, o3, none⟩) 32 c3) (yG_val _ (by rfl) (fun w' _ => by (go_simp; try rfl))) ?_
  (try simp only [Act.put, List.getElem_toArray, List.getElem_cons_succ, List.getElem_cons_zero, List.setIfInBounds_toArray, List.set_cons_zero, List.set_cons_succ])
  refine wpLA_take (.int .u8 0) (yG_val _ (by rfl) (fun w' _ => by (go_simp; try rfl))) ?_
  (try simp only [Act.put, List.getElem_toArray, List.getElem_cons_succ, List.getElem_cons_zero, List.setIfInBounds_toArray, List.set_cons_zero, List.set_cons_succ])
  refine wpLA_end ?_
  intro w4 hb
  have S4 := hid (S3.out.on hb)
  clear hb S3
  go_upto_region 2 with fail
  refine wpLA_start ?_
  refine wpLA_take (.int .u8 0) (yG_val _ (by rfl) (fun w' _ => by (go_simp; try rfl))) ?_
  (try simp only [Act.put, List.getElem_toArray, List.getElem_cons_succ, List.getElem_cons_zero, List.setIfInBounds_toArray, List.set_cons_zero, List.set_cons_succ])
  refine wpLA_take (.int .i64 0) (yG_val _ (by rfl) (fun w' _ => by (go_simp; try rfl))) ?_
  (try simp only [Act.put, List.getElem_toArray, List.getElem_cons_succ, List.getElem_cons_zero, List.setIfInBounds_toArray, List.set_cons_zero, List.set_cons_succ])
  refine wpLA_take (.bool true) (yG_val _ (by rfl) (fun w' _ => by (go_simp; try rfl))) ?_
  (try simp only [Act.put, List.getElem_toArray, List.getElem_cons_succ, List.getElem_cons_zero, List.setIfInBounds_toArray, List.set_cons_zero, List.set_cons_succ])
  refine wpLA_take (.bool true) (yG_val _ (by rfl) (fun w' _ => by (go_simp; try rfl))) ?_
  (try simp only [Act.put, List.getElem_toArray, List.getElem_cons_succ, List.getElem_cons_zero, List.setIfInBounds_toArray, List.set_cons_zero, List.set_cons_succ])
  refine wpLA_take (.slice (some ⟨b3, o3, none⟩) 32 c3) (yG_val _ (by rfl) (fun w' _ => by (go_simp; try rfl))) ?_
  (try simp only [Act.put, List.getElem_toArray, List.getElem_cons_succ, List.getElem_cons_zero, List.setIfInBounds_toArray, List.set_cons_zero, List.set_cons_succ])
  refine wpLA_take (.int .i64 32) (yG_val _ (by rfl) (fun w' _ => by (go_simp; try rfl))) ?_
  (try simp only [Act.put, List.getElem_toArray, List.getElem_cons_succ, List.getElem_cons_zero, List.setIfInBounds_toArray, List.set_cons_zero, List.set_cons_succ])
  refine wpLA_take (.bool true) (yG_val _ (by rfl) (fun w' _ => by (go_simp; try rfl))) ?_
  (try simp only [Act.put, List.getElem_toArray, List.getElem_cons_succ, List.getElem_cons_zero, List.setIfInBounds_toArray, List.set_cons_zero, List.set_cons_succ])
  refine wpLA_take (.bool true) (yG_val _ (by rfl) (fun w' _ => by (go_simp; try rfl))) ?_
  (try simp only [Act.put, List.getElem_toArray, List.getElem_cons_succ, List.getElem_cons_zero, List.setIfInBounds_toArray, List.set_cons_zero, List.set_cons_succ])
  refine wpLA_take (.bool true) (yG_val _ (by rfl) (fun w' _ => by (go_simp; try rfl))) ?_
  (try simp only [Act.put, List.getElem_toArray, List.getElem_cons_succ, List.getElem_cons_zero, List.setIfInBounds_toArray, List.set_cons_zero, List.set_cons_succ])
  refine wpLA_take (.slice (some ⟨b3, o3, none⟩) 32 c3) (yG_val _ (by rfl) (fun w' _ => by (go_simp; try rfl))) ?_
  (try simp only [Act.put, List.getElem_toArray, List.getElem_cons_succ, List.getElem_cons_zero, List.setIfInBounds_toArray, List.set_cons_zero, List.set_cons_succ])
  refine wpLA_take (.pointer (some ⟨b3, o3, none⟩)) (yG_val _ (by rfl) (fun w' _ => by (go_simp; try rfl))) ?_
  (try simp only [Act.put, List.getElem_toArray, List.getElem_cons_succ, List.getElem_cons_zero, List.setIfInBounds_toArray, List.set_cons_zero, List.set_cons_succ])
  refine wpLA_take (.int .u8 59) (yG_val _ (by rfl) (fun w' hb => by (have hc := sq_byte (S4.out.on hb).sq.1 (HPB.out 0 59 rfl); rw [Nat.add_zero] at hc; go_simp; try rfl))) ?_
  (try simp only [Act.put, List.getElem_toArray, List.getElem_cons_succ, List.getElem_cons_zero, List.setIfInBounds_toArray, List.set_cons_zero, List.set_cons_succ])
  refine wpLA_take (.bool true) (yG_val _ (by rfl) (fun w' _ => by (go_simp; try rfl))) ?_
  (try simp only [Act.put, List.getElem_toArray, List.getElem_cons_succ, List.getElem_cons_zero, List.setIfInBounds_toArray, List.set_cons_zero, List.set_cons_succ])
  refine wpLA_take (.bool true) (yG_val _ (by rfl) (fun w' _ => by (go_simp; try rfl))) ?_
  (try simp only [Act.put, List.getElem_toArray, List.getElem_cons_succ, List.getElem_cons_zero, List.setIfInBounds_toArray, List.set_cons_zero, List.set_cons_succ])
  refine wpLA_take (.bool true) (yG_val _ (by rfl) (fun w' _ => by (go_simp; try rfl))) ?_
  (try simp only [Act.put, List.getElem_toArray, List.getElem_cons_succ, List.getElem_cons_zero, List.setIfInBounds_toArray, List.set_cons_zero, List.set_cons_succ])
  refine wpLA_take (.slice (some ⟨b3, o3, none⟩) 32 c3) (yG_val _ (by rfl) (fun w' _ => by (go_simp; try rfl))) ?_
  (try simp only [Act.put, List.getElem_toArray, List.getElem_cons_succ, List.getElem_cons_zero, List.setIfInBounds_toArray, List.set_cons_zero, List.set_cons_succ])
  refine wpLA_take (.pointer (some ⟨b3, o3 + 1, none⟩)) (yG_val _ (by rfl) (fun w' _ => by (go_simp; try rfl))) ?_
  (try simp only [Act.put, List.getElem_toArray, List.getElem_cons_succ, List.getElem_cons_zero, List.setIfInBounds_toArray, List.set_cons_zero, List.set_cons_succ])
  refine wpLA_take (.int .u8 106) (yG_val _ (by rfl) (fun w' hb => by (have hc := sq_byte (S4.out.on hb).sq.1 (HPB.out 1 106 rfl); go_simp; try rfl))) ?_
  (try simp only [Act.put, List.getElem_toArray, List.getElem_cons_succ, List.getElem_cons_zero, List.setIfInBounds_toArray, List.set_cons_zero, List.set_cons_succ])
  refine wpLA_take (.bool true) (yG_val _ (by rfl) (fun w' _ => by (go_simp; try rfl))) ?_
  (try simp only [Act.put, List.getElem_toArray, List.getElem_cons_succ, List.getElem_cons_zero, List.setIfInBounds_toArray, List.set_cons_zero, List.set_cons_succ])
  refine wpLA_take (.bool true) (yG_val _ (by rfl) (fun w' _ => by (go_simp; try rfl))) ?_
  (try simp only [Act.put, List.getElem_toArray, List.getElem_cons_succ, List.getElem_cons_zero, List.setIfInBounds_toArray, List.set_cons_zero, List.set_cons_succ])
  refine wpLA_take (.bool true) (yG_val _ (by rfl) (fun w' _ => by (go_simp; try rfl))) ?_
  (try simp only [Act.put, List.getElem_toArray, List.getElem_cons_succ, List.getElem_cons_zero, List.setIfInBounds_toArray, List.set_cons_zero, List.set_cons_succ])
  refine wpLA_take (.slice (some ⟨b3, o3, none⟩) 32 c3) (yG_val _ (by rfl) (fun w' _ => by (go_simp; try rfl))) ?_
  (try simp only [Act.put, List.getElem_toArray, List.getElem_cons_succ, List.getElem_cons_zero, List.setIfInBounds_toArray, List.set_cons_zero, List.set_cons_succ])
  refine wpLA_take (.pointer (some ⟨b3, o3 + 2, none⟩)) (yG_val _ (by rfl) (fun w' _ => by (go_simp; try rfl))) ?_
  (try simp only [Act.put, List.getElem_toArray, List.getElem_cons_succ, List.getElem_cons_zero, List.setIfInBounds_toArray, List.set_cons_zero, List.set_cons_succ])
  refine wpLA_take (.int .u8 39) (yG_val _ (by rfl) (fun w' hb => by (have hc := sq_byte (S4.out.on hb).sq.1 (HPB.out 2 39 rfl); go_simp; try rfl))) ?_
  (try simp only [Act.put, List.getElem_toArray, List.getElem_cons_succ, List.getElem_cons_zero, List.setIfInBounds_toArray, List.set_cons_zero, List.set_cons_succ])
  refine wpLA_take (.bool true) (yG_val _ (by rfl) (fun w' _ => by (go_simp; try rfl))) ?_
  (try simp only [Act.put, List.getElem_toArray, List.getElem_cons_succ, List.getElem_cons_zero, List.setIfInBounds_toArray, List.set_cons_zero, List.set_cons_succ])
  refine wpLA_take (.bool true) (yG_val _ (by rfl) (fun w' _ => by (go_simp; try rfl))) ?_
  (try simp only [Act.put, List.getElem_toArray, List.getElem_cons_succ, List.getElem_cons_zero, List.setIfInBounds_toArray, List.set_cons_zero, List.set_cons_succ])
  refine wpLA_take (.bool true) (yG_val _ (by rfl) (fun w' _ => by (go_simp; try rfl))) ?_
  (try simp only [Act.put, List.getElem_toArray, List.getElem_cons_succ, List.getElem_cons_zero, List.setIfInBounds_toArray, List.set_cons_zero, List.set_cons_succ])
  refine wpLA_take (.slice (some ⟨b3, o3, none⟩) 32 c3) (yG_val _ (by rfl) (fun w' _ => by (go_simp; try rfl))) ?_
  (try simp only [Act.put, List.getElem_toArray, List.getElem_cons_succ, List.getElem_cons_zero, List.setIfInBounds_toArray, List.set_cons_zero, List.set_cons_succ])
  refine wpLA_take (.pointer (some ⟨b3, o3 + 3, none⟩)) (yG_val _ (by rfl) (fun w' _ => by (go_simp; try rfl))) ?_
  (try simp only [Act.put, List.getElem_toArray, List.getElem_cons_succ, List.getElem_cons_zero, List.setIfInBounds_toArray, List.set_cons_zero, List.set_cons_succ])
  refine wpLA_take (.int .u8 188) (yG_val _ (by rfl) (fun w' hb => by (have hc := sq_byte (S4.out.on hb).sq.1 (HPB.out 3 188 rfl); go_simp; try rfl))) ?_
  (try simp only [Act.put, List.getElem_toArray, List.getElem_cons_succ, List.getElem_cons_zero, List.setIfInBounds_toArray, List.set_cons_zero, List.set_cons_succ])
  refine wpLA_take (.bool true) (yG_val _ (by rfl) (fun w' _ => by (go_simp; try rfl))) ?_
  (try simp only [Act.put, List.getElem_toArray, List.getElem_cons_succ, List.getElem_cons_zero, List.setIfInBounds_toArray, List.set_cons_zero, List.set_cons_succ])
  refine wpLA_take (.bool true) (yG_val _ (by rfl) (fun w' _ => by (go_simp; try rfl))) ?_
  (try simp only [Act.put, List.getElem_toArray, List.getElem_cons_succ, List.getElem_cons_zero, List.setIfInBounds_toArray, List.set_cons_zero, List.set_cons_succ])
  refine wpLA_take (.bool true) (yG_val _ (by rfl) (fun w' _ => by (go_simp; try rfl))) ?_
  (try simp only [Act.put, List.getElem_toArray, List.getElem_cons_succ, List.getElem_cons_zero, List.setIfInBounds_toArray, List.set_cons_zero, List.set_cons_succ])
  refine wpLA_take (.slice (some ⟨b3, o3, none⟩) 32 c3) (yG_val _ (by rfl) (fun w' _ => by (go_simp; try rfl))) ?_
  (try simp only [Act.put, List.getElem_toArray, List.getElem_cons_succ, List.getElem_cons_zero, List.setIfInBounds_toArray, List.set_cons_zero, List.set_cons_succ])
  refine wpLA_make 63 (by rfl) _ _ _ rfl rfl rfl Tryz.underlying22 infoU8 (by decide) ?_
  intro p5 w5 hb hs
  have S5 : Hid (St w w5 [] [((some ⟨p5, 0, none⟩), 63, bvs (List.replicate 63 0)), ((some ⟨b3, o3, none⟩), c3, bvs (PB)), ((some ⟨p2, 0, none⟩), 32, bvs (List.replicate 32 0))]) := hid ((S4.out.on hb).more hs)
  clear hb hs S4
  (try simp only [Act.put, List.getElem_toArray, List.getElem_cons_succ, List.getElem_cons_zero, List.setIfInBounds_toArray, List.set_cons_zero, List.set_cons_succ])
  refine wpLA_take (.bool false) (yG_call (by rfl) (fun w' => by go_simp) (fun w' hb => KH.out _ _ _ _ w' (HG.out.below (S5.out.on hb).below (Nat.le_refl _)) (S5.out.on hb).sq.2.1 (S5.out.on hb).sq.1)) ?_
  (try simp only [Act.put, List.getElem_toArray, List.getElem_cons_succ, List.getElem_cons_zero, List.setIfInBounds_toArray, List.set_cons_zero, List.set_cons_succ])
  refine wpLA_take (.bool true) (yG_val _ (by rfl) (fun w' _ => by (go_simp; try rfl))) ?_
  (try simp only [Act.put, List.getElem_toArray, List.getElem_cons_succ, List.getElem_cons_zero, List.setIfInBounds_toArray, List.set_cons_zero, List.set_cons_succ])
  refine wpLA_take (.bool true) (yG_val _ (by rfl) (fun w' _ => by (go_simp; try rfl))) ?_
  (try simp only [Act.put, List.getElem_toArray, List.getElem_cons_succ, List.getElem_cons_zero, List.setIfInBounds_toArray, List.set_cons_zero, List.set_cons_succ])
  refine wpLA_take (.bool true) (yG_val _ (by rfl) (fun w' _ => by (go_simp; try rfl))) ?_
  (try simp only [Act.put, List.getElem_toArray, List.getElem_cons_succ, List.getElem_cons_zero, List.setIfInBounds_toArray, List.set_cons_zero, List.set_cons_succ])
  refine wpLA_end ?_
  intro w6 hb
  have S6 := hid (S5.out.on hb)
  clear hb S5
  go_wp2_with fail
  go_ret
  exact ⟨rfl, S6.out.below⟩
end Go.Proofs.YtheamlhhfkaknaaGreatDoor
end
section
namespace Go.Proofs.YtheamlhhfkaknaaGreatDoor
open Go Go.RowKit
set_option linter.unusedVariables false
set_option linter.unusedSimpArgs false
theorem dg_small {n : Nat} (h : n < ordL) : (dg n).length ≤ 1073741824 := by
  have h1 : n < 32768 ^ 17 := Nat.lt_trans h (by decide +kernel)
  have := (dg_length_le n 17).2 h1
  omega
theorem same10 (A : Option Addr) (xs : List UInt8) (c n : Nat) (A' : Option Addr) (ys : List UInt8) (c' m : Nat) (W : World) (hS : Sq W W.heap.size A c (bvs xs)) (hS' : Sq W W.heap.size A' c' (bvs ys)) (hn : xs.length = n) (hm : ys.length = m) (hl : n ≤ 1000) (he : xs = ys) :
    Calls Tryz.prog 21 #[.slice A n c, .slice A' m c'] W fun e w' => e = .returned (.bool true) ∧ Below W.heap.size W w' := by
  subst hn; subst hm; subst he
  have h := calls_drew (Same_any A xs c A' xs c' W _ _ hS.lie hS'.lie (by omega))
  rw [show (xs == xs) = true by simp] at h
  exact h
end Go.Proofs.YtheamlhhfkaknaaGreatDoor
end
section
namespace Go.Proofs.YtheamlhhfkaknaaGreatDoor
open Go Go.RowKit
set_option linter.unusedVariables false
set_option linter.unusedSimpArgs false
set_option maxRecDepth 100000 in
set_option maxHeartbeats 4000000 in
theorem back_some (A : Option Addr) (xs : List UInt8) (c : Nat) (A' : Option Addr) (ys : List UInt8) (c' : Nat) (s : ByteArray) (w : World) (hG : GlobL w) (hS : Sq w w.heap.size A c (bvs xs)) (hS' : Sq w w.heap.size A' c' (bvs ys)) (hy : ys.length ≤ 300) (hs : s.size ≤ 60) (h32 : xs.length = 32) :
    Calls Tryz.prog 4 #[.slice A 32 c, .slice A' ys.length c', .string s] w fun e w' => e = .returned (.bool true) ∧ Below w.heap.size w w' := by
  obtain ⟨b0, o0, rfl, -⟩ := hS.form (by rw [bvs_length]; omega)
  have HS := hid hS; have HS' := hid hS'; have HG := hid hG; have LXS := hid h32
  have hpub := fun A c W hG h => SgPublic A xs c W hG h (by omega)
  have hsig := fun (zs : List UInt8) (hz : zs.length ≤ 600) A c A2 c2 W hG h h' => SgSign A xs c A2 zs c2 W hG h h' (by omega) (by omega)
  have hlab := fun A c A2 c2 W hG h h' => SgLabel A xs c s A2 ys c2 W hG h h' (by omega) (by omega) (by omega)
  unfold pubO at hpub
  unfold sigO at hsig hlab
  simp only [if_pos h32, h32] at hpub hsig hlab
  have hTXl := textB_length (sby s) ys (by rw [sby_length]; omega) (by omega)
  have hTX := fun A c W h => Text10_any s A ys c W h (by omega) (by omega)
  obtain ⟨TX, eTX⟩ : ∃ l, l = textB (sby s) ys := ⟨_, rfl⟩
  obtain ⟨PB, ePB⟩ : ∃ l, l = pubB xs := ⟨_, rfl⟩
  obtain ⟨SB, eSB⟩ : ∃ l, l = sigB xs ys := ⟨_, rfl⟩
  obtain ⟨TB, eTB⟩ : ∃ l, l = sigB xs TX := ⟨_, rfl⟩
  have LPB : Hid (PB.length = 32) := hid (by rw [ePB]; exact pubB_length _)
  have LSB : Hid (SB.length = 64) := hid (by rw [eSB]; exact sigB_length _ _)
  have LTB : Hid (TB.length = 64) := hid (by rw [eTB]; exact sigB_length _ _)
  rw [← eTX] at hTXl hTX hlab
  rw [← eTB] at hlab
  rw [← ePB] at hpub
  have hsig1 := hsig ys (by omega)
  have hsig2 := hsig TX (by omega)
  rw [← eSB] at hsig1
  rw [← eTB] at hsig2
  obtain ⟨n6, hn6⟩ : ∃ n, n = (sumS xs ys).val := ⟨_, rfl⟩
  obtain ⟨n7, hn7⟩ : ∃ n, n = n6 + ordL := ⟨_, rfl⟩
  have l6 : n6 < ordL := by rw [hn6]; exact SF_lt _
  have l7 : n7 < 32768 ^ 50 := by rw [hn7]; exact Nat.lt_trans (Nat.add_lt_add_right l6 ordL) (by decide +kernel)
  have eD : leN (SB.drop 32) = n6 := by rw [eSB, sigB_drop, ← hn6]; exact leN_32 l6
  have lD : (SB.drop 32).length = 32 := by rw [List.length_drop, LSB.out]
  have l31 : (xs.take 31).length = 31 := by rw [List.length_take, h32]; rfl
  have p31 : (PB.take 31).length = 31 := by rw [List.length_take, LPB.out]; rfl
  have hlab31 := fun A c A2 c2 W hG h h' => SgLabel A (xs.take 31) c s A2 ys c2 W hG h h' (by omega) (by omega) (by omega)
  unfold sigO at hlab31
  rw [if_neg (by rw [l31]; decide)] at hlab31
  simp only [l31] at hlab31
  obtain ⟨X0, hX0⟩ : ∃ l_ : List UInt8, l_ = ([] : List UInt8) ++ (SB.take 32) := ⟨_, rfl⟩
  have EX0 := hid hX0
  have LX0 : Hid (X0.length ≤ 10000) := hid (by rw [hX0]; rw [List.length_append, List.length_take, LSB.out]; decide)
  obtain ⟨X1, hX1⟩ : ∃ l_ : List UInt8, l_ = X0 ++ leB 32 n7 := ⟨_, rfl⟩
  have EX1 := hid hX1
  have LX1 : Hid (X1.length ≤ 10000) := hid (by rw [hX1]; rw [EX0.out, List.length_append, List.length_append, List.length_take, LSB.out, leB_length]; decide)
  have KP : Hid (∀ (A : Option Addr) (c : Nat) (W : World), GlobL W → Sq W W.heap.size A c (bvs xs) → Calls Tryz.prog 6 #[.slice A 32 c] W (SgR W (some PB))) := hid hpub
  have KS : Hid (∀ (A : Option Addr) (c : Nat) (A2 : Option Addr) (c2 : Nat) (W : World), GlobL W → Sq W W.heap.size A c (bvs xs) → Sq W W.heap.size A2 c2 (bvs ys) → Calls Tryz.prog 7 #[.slice A 32 c, .slice A2 ys.length c2] W (SgR W (some SB))) := hid hsig1
  have KS2 : Hid (∀ (A : Option Addr) (c : Nat) (A2 : Option Addr) (c2 : Nat) (W : World), GlobL W → Sq W W.heap.size A c (bvs xs) → Sq W W.heap.size A2 c2 (bvs TX) → Calls Tryz.prog 7 #[.slice A 32 c, .slice A2 TX.length c2] W (SgR W (some TB))) := hid hsig2
  have KL : Hid (∀ (A : Option Addr) (c : Nat) (A2 : Option Addr) (c2 : Nat) (W : World), GlobL W → Sq W W.heap.size A c (bvs xs) → Sq W W.heap.size A2 c2 (bvs ys) → Calls Tryz.prog 23 #[.slice A 32 c, .string s, .slice A2 ys.length c2] W (SgR W (some TB))) := hid hlab
  have KL31 : Hid (∀ (A : Option Addr) (c : Nat) (A2 : Option Addr) (c2 : Nat) (W : World), GlobL W → Sq W W.heap.size A c (bvs (xs.take 31)) → Sq W W.heap.size A2 c2 (bvs ys) → Calls Tryz.prog 23 #[.slice A 31 c, .string s, .slice A2 ys.length c2] W (SgR W none)) := hid hlab31
  have KTX : Hid (∀ (A : Option Addr) (c : Nat) (W : World), Sq W W.heap.size A c (bvs ys) → Calls Tryz.prog 24 #[.string s, .slice A ys.length c] W fun e w' => ∃ v, e = .returned v ∧ OwnB w' W.heap.size v TX ∧ Below W.heap.size W w') := hid hTX
  have KH1 : Hid (∀ (A : Option Addr) (c : Nat) (A2 : Option Addr) (c2 : Nat) (A3 : Option Addr) (c3 : Nat) (W : World), GlobL W → Sq W W.heap.size A c (bvs PB) → Sq W W.heap.size A2 c2 (bvs ys) → Sq W W.heap.size A3 c3 (bvs SB) → Calls Tryz.prog 25 #[.slice A 32 c, .slice A2 ys.length c2, .slice A3 64 c3] W fun e w' => e = .returned (.bool true) ∧ Below W.heap.size W w') := hid fun A c A2 c2 A3 c3 W hG h1 h2 h3 => by have := SgHolds A PB c A2 ys c2 A3 SB c3 W hG h1 h2 h3 (by rw [LPB.out]; decide) (by omega) (by rw [LSB.out]; decide); rw [LPB.out, LSB.out, ePB, eSB, holds_sig] at this; exact this
  have KH2 : Hid (∀ (A : Option Addr) (c : Nat) (A2 : Option Addr) (c2 : Nat) (A3 : Option Addr) (c3 : Nat) (W : World), GlobL W → Sq W W.heap.size A c (bvs PB) → Sq W W.heap.size A2 c2 (bvs TX) → Sq W W.heap.size A3 c3 (bvs TB) → Calls Tryz.prog 25 #[.slice A 32 c, .slice A2 TX.length c2, .slice A3 64 c3] W fun e w' => e = .returned (.bool true) ∧ Below W.heap.size W w') := hid fun A c A2 c2 A3 c3 W hG h1 h2 h3 => by have := SgHolds A PB c A2 TX c2 A3 TB c3 W hG h1 h2 h3 (by rw [LPB.out]; decide) (by omega) (by rw [LTB.out]; decide); rw [LPB.out, LTB.out, ePB, eTB, holds_sig] at this; exact this
  have KH4 : Hid (∀ (A : Option Addr) (c : Nat) (A2 : Option Addr) (c2 : Nat) (A3 : Option Addr) (c3 : Nat) (W : World), GlobL W → Sq W W.heap.size A c (bvs (PB.take 31)) → Sq W W.heap.size A2 c2 (bvs ys) → Sq W W.heap.size A3 c3 (bvs SB) → Calls Tryz.prog 25 #[.slice A 31 c, .slice A2 ys.length c2, .slice A3 64 c3] W fun e w' => e = .returned (.bool false) ∧ Below W.heap.size W w') := hid fun A c A2 c2 A3 c3 W hG h1 h2 h3 => by have := SgHolds A (PB.take 31) c A2 ys c2 A3 SB c3 W hG h1 h2 h3 (by rw [p31]; decide) (by omega) (by rw [LSB.out]; decide); rw [p31, LSB.out, holds_key (by rw [p31]; decide)] at this; exact this
  have KH3 : Hid (∀ (A : Option Addr) (c : Nat) (A2 : Option Addr) (c2 : Nat) (A3 : Option Addr) (c3 : Nat) (W : World), GlobL W → Sq W W.heap.size A c (bvs PB) → Sq W W.heap.size A2 c2 (bvs ys) → Sq W W.heap.size A3 c3 (bvs X1) → Calls Tryz.prog 25 #[.slice A 32 c, .slice A2 ys.length c2, .slice A3 X1.length c3] W fun e w' => e = .returned (.bool false) ∧ Below W.heap.size W w') := hid fun A c A2 c2 A3 c3 W hG h1 h2 h3 => by have := SgHolds A PB c A2 ys c2 A3 X1 c3 W hG h1 h2 h3 (by rw [LPB.out]; decide) (by omega) (by rw [EX1.out, EX0.out, List.length_append, List.length_append, List.length_take, LSB.out, leB_length]; decide); rw [LPB.out, show holdsB PB ys X1 = false by rw [EX1.out, EX0.out, List.nil_append, eSB, sigB_take, hn7, hn6]; exact holds_more xs ys] at this; exact this
  have KC : Hid (∀ (A : Option Addr) (c : Nat) (A2 : Option Addr) (c2 : Nat) (A3 : Option Addr) (c3 : Nat) (W : World), GlobL W → Sq W W.heap.size A c (bvs PB) → Sq W W.heap.size A2 c2 (bvs ys) → Sq W W.heap.size A3 c3 (bvs TB) → Calls Tryz.prog 26 #[.slice A 32 c, .string s, .slice A2 ys.length c2, .slice A3 64 c3] W fun e w' => e = .returned (.bool true) ∧ Below W.heap.size W w') := hid fun A c A2 c2 A3 c3 W hG h1 h2 h3 => by have := SgCheck A PB c s A2 ys c2 A3 TB c3 W hG h1 h2 h3 (by rw [LPB.out]; decide) (by omega) (by omega) (by rw [LTB.out]; decide); rw [LPB.out, LTB.out, ← eTX, ePB, eTB, holds_sig] at this; exact this
  have KE0 : Hid (∀ (A : Option Addr) (c : Nat) (A2 : Option Addr) (c2 : Nat) (W : World), Sq W W.heap.size A c (bvs TB) → Sq W W.heap.size A2 c2 (bvs TB) → Calls Tryz.prog 21 #[.slice A 64 c, .slice A2 64 c2] W fun e w' => e = .returned (.bool true) ∧ Below W.heap.size W w') := hid fun A c A2 c2 W h h' => same10 A _ c _ A2 _ c2 _ W h h' LTB.out LTB.out (by decide) rfl
  have KE1 : Hid (∀ (A : Option Addr) (c : Nat) (A2 : Option Addr) (c2 : Nat) (W : World), Sq W W.heap.size A c (bvs SB) → Sq W W.heap.size A2 c2 (bvs SB) → Calls Tryz.prog 21 #[.slice A 64 c, .slice A2 64 c2] W fun e w' => e = .returned (.bool true) ∧ Below W.heap.size W w') := hid fun A c A2 c2 W h h' => same10 A _ c _ A2 _ c2 _ W h h' LSB.out LSB.out (by decide) rfl
  have KOF : Hid (∀ (A : Option Addr) (c : Nat) (W : World), Sq W W.heap.size A c (bvs (SB.drop 32)) → Calls Tryz.prog 27 #[.slice A 32 c] W (BigR W n6)) := hid fun A c W h => by have := Of6_any A (SB.drop 32) c W h (by rw [lD]; decide); rw [lD, eD] at this; exact this
  have KAD : Hid (∀ (A : Option Addr) (c : Nat) (A2 : Option Addr) (c2 : Nat) (W : World), Sq W W.heap.size A c (ivs (dg n6)) → Sq W W.heap.size A2 c2 (ivs (dg ordL)) → Calls Tryz.prog 19 #[.slice A (dg n6).length c, .slice A2 (dg ordL).length c2] W (BigR W n7)) := hid fun A c A2 c2 W h h' => by rw [hn7]; exact Add_any n6 ordL A A2 c c2 W h h' (dg_small l6) (by have := (dg_length_le ordL 17).2 (by decide +kernel); omega)
  have KB7 : Hid (∀ (A : Option Addr) (c : Nat) (W : World), Sq W W.heap.size A c (ivs (dg n7)) → Calls Tryz.prog 17 #[.slice A (dg n7).length c, .int .i64 32] W fun e w' => ∃ v, e = .returned v ∧ OwnB w' W.heap.size v (leB 32 n7) ∧ Below W.heap.size W w') := hid fun A c W h => Bytes6_any n7 32 A c W h l7 (by decide)
  have HY := hid (show ¬ (300 : Int) < (ys.length : Int) by omega)
  have HZ := hid (show ¬ (60 : Int) < (s.size : Int) by omega)
  clear hG hS hS' hy hs h32 hpub hsig hlab hTXl hTX eTX ePB eSB eTB hsig1 hsig2 hn6 hn7 l6 l7 eD lD l31 p31 hlab31 hX0 hX1
  go_enter Tryz.func4, Tryz.ntmps4
  have S0 : Hid (St w w [] []) := hid (St.start w)
  go_upto_region 0 with fail
  refine wpLA_start ?_
  refine wpLA_take (.bool false) (yG_val _ (by rfl) (fun w' _ => by (go_simp; try rfl))) ?_
  (try simp only [Act.put, List.getElem_toArray, List.getElem_cons_succ, List.getElem_cons_zero, List.setIfInBounds_toArray, List.set_cons_zero, List.set_cons_succ])
  refine wpLA_end ?_
  intro w1 hb
  have S1 := hid (S0.out.on hb)
  clear hb S0
  go_upto_region 1 with fail
  refine wpLA_start ?_
  refine wpLA_take (.bool true) (yG_call (by rfl) (fun w' => by go_simp) (fun w' hb => alive10_any w' (HG.out.below (S1.out.on hb).below (Nat.le_refl _)))) ?_
  (try simp only [Act.put, List.getElem_toArray, List.getElem_cons_succ, List.getElem_cons_zero, List.setIfInBounds_toArray, List.set_cons_zero, List.set_cons_succ])
  refine wpLA_take (.bool false) (yG_val _ (by rfl) (fun w' _ => by (go_simp; try rfl))) ?_
  (try simp only [Act.put, List.getElem_toArray, List.getElem_cons_succ, List.getElem_cons_zero, List.setIfInBounds_toArray, List.set_cons_zero, List.set_cons_succ])
  refine wpLA_end ?_
  intro w2 hb
  have S2 := hid (S1.out.on hb)
  clear hb S1
  go_upto_region 3 with fail
  refine wpLA_start ?_
  refine wpLA_take (.slice (some ⟨b0, o0, none⟩) 32 c) (yG_val _ (by rfl) (fun w' _ => by (go_simp; try rfl))) ?_
  (try simp only [Act.put, List.getElem_toArray, List.getElem_cons_succ, List.getElem_cons_zero, List.setIfInBounds_toArray, List.set_cons_zero, List.set_cons_succ])
  refine wpLA_take (.int .i64 32) (yG_val _ (by rfl) (fun w' _ => by (go_simp; try rfl))) ?_
  (try simp only [Act.put, List.getElem_toArray, List.getElem_cons_succ, List.getElem_cons_zero, List.setIfInBounds_toArray, List.set_cons_zero, List.set_cons_succ])
  refine wpLA_take (.bool false) (yG_val _ (by rfl) (fun w' _ => by (go_simp; try rfl))) ?_
  (try simp only [Act.put, List.getElem_toArray, List.getElem_cons_succ, List.getElem_cons_zero, List.setIfInBounds_toArray, List.set_cons_zero, List.set_cons_succ])
  refine wpLA_take (.bool false) (yG_val _ (by rfl) (fun w' _ => by (go_simp; try rfl))) ?_
  (try simp only [Act.put, List.getElem_toArray, List.getElem_cons_succ, List.getElem_cons_zero, List.setIfInBounds_toArray, List.set_cons_zero, List.set_cons_succ])
  refine wpLA_take (.slice A' (ys.length) c') (yG_val _ (by rfl) (fun w' _ => by (go_simp; try rfl))) ?_
  (try simp only [Act.put, List.getElem_toArray, List.getElem_cons_succ, List.getElem_cons_zero, List.setIfInBounds_toArray, List.set_cons_zero, List.set_cons_succ])
  refine wpLA_take (.int .i64 ((ys.length : Nat))) (yG_val _ (by rfl) (fun w' _ => by (go_simp; try rfl))) ?_
  (try simp only [Act.put, List.getElem_toArray, List.getElem_cons_succ, List.getElem_cons_zero, List.setIfInBounds_toArray, List.set_cons_zero, List.set_cons_succ])
  refine wpLA_take (.bool false) (yG_val _ (by rfl) (fun w' _ => by (have h := HY.out; go_simp; try omega))) ?_
  (try simp only [Act.put, List.getElem_toArray, List.getElem_cons_succ, List.getElem_cons_zero, List.setIfInBounds_toArray, List.set_cons_zero, List.set_cons_succ])
  refine wpLA_take (.bool false) (yG_val _ (by rfl) (fun w' _ => by (go_simp; try rfl))) ?_
  (try simp only [Act.put, List.getElem_toArray, List.getElem_cons_succ, List.getElem_cons_zero, List.setIfInBounds_toArray, List.set_cons_zero, List.set_cons_succ])
  refine wpLA_take (.bool false) (yG_val _ (by rfl) (fun w' _ => by (go_simp; try rfl))) ?_
  (try simp only [Act.put, List.getElem_toArray, List.getElem_cons_succ, List.getElem_cons_zero, List.setIfInBounds_toArray, List.set_cons_zero, List.set_cons_succ])
  refine wpLA_take (.string s) (yG_val _ (by rfl) (fun w' _ => by (go_simp; try rfl))) ?_
  (try simp only [Act.put, List.getElem_toArray, List.getElem_cons_succ, List.getElem_cons_zero, List.setIfInBounds_toArray, List.set_cons_zero, List.set_cons_succ])
  refine wpLA_take (.int .i64 ((s.size : Nat))) (yG_val _ (by rfl) (fun w' _ => by (go_simp; try rfl))) ?_
  (try simp only [Act.put, List.getElem_toArray, List.getElem_cons_succ, List.getElem_cons_zero, List.setIfInBounds_toArray, List.set_cons_zero, List.set_cons_succ])
  refine wpLA_take (.bool false) (yG_val _ (by rfl) (fun w' _ => by (have h := HZ.out; go_simp; try omega))) ?_
  (try simp only [Act.put, List.getElem_toArray, List.getElem_cons_succ, List.getElem_cons_zero, List.setIfInBounds_toArray, List.set_cons_zero, List.set_cons_succ])
  refine wpLA_take (.bool false) (yG_val _ (by rfl) (fun w' _ => by (go_simp; try rfl))) ?_
  (try simp only [Act.put, List.getElem_toArray, List.getElem_cons_succ, List.getElem_cons_zero, List.setIfInBounds_toArray, List.set_cons_zero, List.set_cons_succ])
  refine wpLA_end ?_
  intro w3 hb
  have S3 := hid (S2.out.on hb)
  clear hb S2
  go_upto_region 5 with fail
  refine wpLA_start ?_
  refine wpLA_take (.slice (some ⟨b0, o0, none⟩) 32 c) (yG_val _ (by rfl) (fun w' _ => by (go_simp; try rfl))) ?_
  (try simp only [Act.put, List.getElem_toArray, List.getElem_cons_succ, List.getElem_cons_zero, List.setIfInBounds_toArray, List.set_cons_zero, List.set_cons_succ])
  refine wpLA_sgS (xs := PB) (n := 32) LPB.out (by decide) (by rfl) (fun w' => by go_simp) (fun w' hb => KP.out _ _ w' (HG.out.below (S3.out.on hb).below (Nat.le_refl _)) (HS.out.on6 ((S3.out.on hb).below))) ?_
  intro b4 o4 c4 w4 hb hs
  have S4 : Hid (St w w4 [] [((some ⟨b4, o4, none⟩), c4, bvs (PB))]) := hid ((S3.out.on hb).more hs)
  clear hb hs S3
  (try simp only [Act.put, List.getElem_toArray, List.getElem_cons_succ, List.getElem_cons_zero, List.setIfInBounds_toArray, List.set_cons_zero, List.set_cons_succ])
  refine wpLA_take (.tuple #[(.slice (some ⟨b4, o4, none⟩) 32 c4), (.int .u8 0)]) (yG_val _ (by rfl) (fun w' _ => by (go_simp; try rfl))) ?_
  (try simp only [Act.put, List.getElem_toArray, List.getElem_cons_succ, List.getElem_cons_zero, List.setIfInBounds_toArray, List.set_cons_zero, List.set_cons_succ])
  refine wpLA_take (.slice (some ⟨b4, o4, none⟩) 32 c4) (yG_val _ (by rfl) (fun w' _ => by (go_simp; try rfl))) ?_
  (try simp only [Act.put, List.getElem_toArray, List.getElem_cons_succ, List.getElem_cons_zero, List.setIfInBounds_toArray, List.set_cons_zero, List.set_cons_succ])
  refine wpLA_take (.int .u8 0) (yG_val _ (by rfl) (fun w' _ => by (go_simp; try rfl))) ?_
  (try simp only [Act.put, List.getElem_toArray, List.getElem_cons_succ, List.getElem_cons_zero, List.setIfInBounds_toArray, List.set_cons_zero, List.set_cons_succ])
  refine wpLA_take (.slice (some ⟨b4, o4, none⟩) 32 c4) (yG_val _ (by rfl) (fun w' _ => by (go_simp; try rfl))) ?_
  (try simp only [Act.put, List.getElem_toArray, List.getElem_cons_succ, List.getElem_cons_zero, List.setIfInBounds_toArray, List.set_cons_zero, List.set_cons_succ])
  refine wpLA_take (.int .u8 0) (yG_val _ (by rfl) (fun w' _ => by (go_simp; try rfl))) ?_
  (try simp only [Act.put, List.getElem_toArray, List.getElem_cons_succ, List.getElem_cons_zero, List.setIfInBounds_toArray, List.set_cons_zero, List.set_cons_succ])
  refine wpLA_end ?_
  intro w5 hb
  have S5 := hid (S4.out.on hb)
  clear hb S4
  go_upto_region 6 with fail
  refine wpLA_start ?_
  refine wpLA_take (.slice (some ⟨b0, o0, none⟩) 32 c) (yG_val _ (by rfl) (fun w' _ => by (go_simp; try rfl))) ?_
  (try simp only [Act.put, List.getElem_toArray, List.getElem_cons_succ, List.getElem_cons_zero, List.setIfInBounds_toArray, List.set_cons_zero, List.set_cons_succ])
  refine wpLA_take (.slice A' (ys.length) c') (yG_val _ (by rfl) (fun w' _ => by (go_simp; try rfl))) ?_
  (try simp only [Act.put, List.getElem_toArray, List.getElem_cons_succ, List.getElem_cons_zero, List.setIfInBounds_toArray, List.set_cons_zero, List.set_cons_succ])
  refine wpLA_sgS (xs := SB) (n := 64) LSB.out (by decide) (by rfl) (fun w' => by go_simp) (fun w' hb => KS.out _ _ _ _ w' (HG.out.below (S5.out.on hb).below (Nat.le_refl _)) (HS.out.on6 ((S5.out.on hb).below)) (HS'.out.on6 ((S5.out.on hb).below))) ?_
  intro b6 o6 c6 w6 hb hs
  have S6 : Hid (St w w6 [] [((some ⟨b6, o6, none⟩), c6, bvs (SB)), ((some ⟨b4, o4, none⟩), c4, bvs (PB))]) := hid ((S5.out.on hb).more hs)
  clear hb hs S5
  (try simp only [Act.put, List.getElem_toArray, List.getElem_cons_succ, List.getElem_cons_zero, List.setIfInBounds_toArray, List.set_cons_zero, List.set_cons_succ])
  refine wpLA_take (.tuple #[(.slice (some ⟨b6, o6, none⟩) 64 c6), (.int .u8 0)]) (yG_val _ (by rfl) (fun w' _ => by (go_simp; try rfl))) ?_
  (try simp only [Act.put, List.getElem_toArray, List.getElem_cons_succ, List.getElem_cons_zero, List.setIfInBounds_toArray, List.set_cons_zero, List.set_cons_succ])
  refine wpLA_take (.slice (some ⟨b6, o6, none⟩) 64 c6) (yG_val _ (by rfl) (fun w' _ => by (go_simp; try rfl))) ?_
  (try simp only [Act.put, List.getElem_toArray, List.getElem_cons_succ, List.getElem_cons_zero, List.setIfInBounds_toArray, List.set_cons_zero, List.set_cons_succ])
  refine wpLA_take (.int .u8 0) (yG_val _ (by rfl) (fun w' _ => by (go_simp; try rfl))) ?_
  (try simp only [Act.put, List.getElem_toArray, List.getElem_cons_succ, List.getElem_cons_zero, List.setIfInBounds_toArray, List.set_cons_zero, List.set_cons_succ])
  refine wpLA_take (.slice (some ⟨b6, o6, none⟩) 64 c6) (yG_val _ (by rfl) (fun w' _ => by (go_simp; try rfl))) ?_
  (try simp only [Act.put, List.getElem_toArray, List.getElem_cons_succ, List.getElem_cons_zero, List.setIfInBounds_toArray, List.set_cons_zero, List.set_cons_succ])
  refine wpLA_take (.int .u8 0) (yG_val _ (by rfl) (fun w' _ => by (go_simp; try rfl))) ?_
  (try simp only [Act.put, List.getElem_toArray, List.getElem_cons_succ, List.getElem_cons_zero, List.setIfInBounds_toArray, List.set_cons_zero, List.set_cons_succ])
  refine wpLA_end ?_
  intro w7 hb
  have S7 := hid (S6.out.on hb)
  clear hb S6
  go_upto_region 7 with fail
  refine wpLA_start ?_
  refine wpLA_take (.slice (some ⟨b0, o0, none⟩) 32 c) (yG_val _ (by rfl) (fun w' _ => by (go_simp; try rfl))) ?_
  (try simp only [Act.put, List.getElem_toArray, List.getElem_cons_succ, List.getElem_cons_zero, List.setIfInBounds_toArray, List.set_cons_zero, List.set_cons_succ])
  refine wpLA_take (.string s) (yG_val _ (by rfl) (fun w' _ => by (go_simp; try rfl))) ?_
  (try simp only [Act.put, List.getElem_toArray, List.getElem_cons_succ, List.getElem_cons_zero, List.setIfInBounds_toArray, List.set_cons_zero, List.set_cons_succ])
  refine wpLA_take (.slice A' (ys.length) c') (yG_val _ (by rfl) (fun w' _ => by (go_simp; try rfl))) ?_
  (try simp only [Act.put, List.getElem_toArray, List.getElem_cons_succ, List.getElem_cons_zero, List.setIfInBounds_toArray, List.set_cons_zero, List.set_cons_succ])
  refine wpLA_sgS (xs := TB) (n := 64) LTB.out (by decide) (by rfl) (fun w' => by go_simp) (fun w' hb => KL.out _ _ _ _ w' (HG.out.below (S7.out.on hb).below (Nat.le_refl _)) (HS.out.on6 ((S7.out.on hb).below)) (HS'.out.on6 ((S7.out.on hb).below))) ?_
  intro b8 o8 c8 w8 hb hs
  have S8 : Hid (St w w8 [] [((some ⟨b8, o8, none⟩), c8, bvs (TB)), ((some ⟨b6, o6, none⟩), c6, bvs (SB)), ((some ⟨b4, o4, none⟩), c4, bvs (PB))]) := hid ((S7.out.on hb).more hs)
  clear hb hs S7
  (try simp only [Act.put, List.getElem_toArray, List.getElem_cons_succ, List.getElem_cons_zero, List.setIfInBounds_toArray, List.set_cons_zero, List.set_cons_succ])
  refine wpLA_take (.tuple #[(.slice (some ⟨b8, o8, none⟩) 64 c8), (.int .u8 0)]) (yG_val _ (by rfl) (fun w' _ => by (go_simp; try rfl))) ?_
  (try simp only [Act.put, List.getElem_toArray, List.getElem_cons_succ, List.getElem_cons_zero, List.setIfInBounds_toArray, List.set_cons_zero, List.set_cons_succ])
  refine wpLA_take (.slice (some ⟨b8, o8, none⟩) 64 c8) (yG_val _ (by rfl) (fun w' _ => by (go_simp; try rfl))) ?_
  (try simp only [Act.put, List.getElem_toArray, List.getElem_cons_succ, List.getElem_cons_zero, List.setIfInBounds_toArray, List.set_cons_zero, List.set_cons_succ])
  refine wpLA_take (.int .u8 0) (yG_val _ (by rfl) (fun w' _ => by (go_simp; try rfl))) ?_
  (try simp only [Act.put, List.getElem_toArray, List.getElem_cons_succ, List.getElem_cons_zero, List.setIfInBounds_toArray, List.set_cons_zero, List.set_cons_succ])
  refine wpLA_take (.slice (some ⟨b8, o8, none⟩) 64 c8) (yG_val _ (by rfl) (fun w' _ => by (go_simp; try rfl))) ?_
  (try simp only [Act.put, List.getElem_toArray, List.getElem_cons_succ, List.getElem_cons_zero, List.setIfInBounds_toArray, List.set_cons_zero, List.set_cons_succ])
  refine wpLA_take (.int .u8 0) (yG_val _ (by rfl) (fun w' _ => by (go_simp; try rfl))) ?_
  (try simp only [Act.put, List.getElem_toArray, List.getElem_cons_succ, List.getElem_cons_zero, List.setIfInBounds_toArray, List.set_cons_zero, List.set_cons_succ])
  refine wpLA_end ?_
  intro w9 hb
  have S9 := hid (S8.out.on hb)
  clear hb S8
  go_upto_region 8 with fail
  refine wpLA_start ?_
  refine wpLA_take (.slice (some ⟨b0, o0, none⟩) 32 c) (yG_val _ (by rfl) (fun w' _ => by (go_simp; try rfl))) ?_
  (try simp only [Act.put, List.getElem_toArray, List.getElem_cons_succ, List.getElem_cons_zero, List.setIfInBounds_toArray, List.set_cons_zero, List.set_cons_succ])
  refine wpLA_take (.string s) (yG_val _ (by rfl) (fun w' _ => by (go_simp; try rfl))) ?_
  (try simp only [Act.put, List.getElem_toArray, List.getElem_cons_succ, List.getElem_cons_zero, List.setIfInBounds_toArray, List.set_cons_zero, List.set_cons_succ])
  refine wpLA_take (.slice A' (ys.length) c') (yG_val _ (by rfl) (fun w' _ => by (go_simp; try rfl))) ?_
  (try simp only [Act.put, List.getElem_toArray, List.getElem_cons_succ, List.getElem_cons_zero, List.setIfInBounds_toArray, List.set_cons_zero, List.set_cons_succ])
  refine wpLA_bytes (TX) (by rfl) (fun w' => by go_simp) (fun w' hb => KTX.out _ _ w' (HS'.out.on6 ((S9.out.on hb).below))) ?_
  intro A10 c10 w10 hb hs
  have S10 : Hid (St w w10 [] [(A10, c10, bvs (TX)), ((some ⟨b8, o8, none⟩), c8, bvs (TB)), ((some ⟨b6, o6, none⟩), c6, bvs (SB)), ((some ⟨b4, o4, none⟩), c4, bvs (PB))]) := hid ((S9.out.on hb).more hs)
  clear hb hs S9
  (try simp only [Act.put, List.getElem_toArray, List.getElem_cons_succ, List.getElem_cons_zero, List.setIfInBounds_toArray, List.set_cons_zero, List.set_cons_succ])
  refine wpLA_sgS (xs := TB) (n := 64) LTB.out (by decide) (by rfl) (fun w' => by go_simp) (fun w' hb => KS2.out _ _ _ _ w' (HG.out.below (S10.out.on hb).below (Nat.le_refl _)) (HS.out.on6 ((S10.out.on hb).below)) (S10.out.on hb).sq.1) ?_
  intro b11 o11 c11 w11 hb hs
  have S11 : Hid (St w w11 [] [((some ⟨b11, o11, none⟩), c11, bvs (TB)), (A10, c10, bvs (TX)), ((some ⟨b8, o8, none⟩), c8, bvs (TB)), ((some ⟨b6, o6, none⟩), c6, bvs (SB)), ((some ⟨b4, o4, none⟩), c4, bvs (PB))]) := hid ((S10.out.on hb).more hs)
  clear hb hs S10
  (try simp only [Act.put, List.getElem_toArray, List.getElem_cons_succ, List.getElem_cons_zero, List.setIfInBounds_toArray, List.set_cons_zero, List.set_cons_succ])
  refine wpLA_take (.tuple #[(.slice (some ⟨b11, o11, none⟩) 64 c11), (.int .u8 0)]) (yG_val _ (by rfl) (fun w' _ => by (go_simp; try rfl))) ?_
  (try simp only [Act.put, List.getElem_toArray, List.getElem_cons_succ, List.getElem_cons_zero, List.setIfInBounds_toArray, List.set_cons_zero, List.set_cons_succ])
  refine wpLA_take (.slice (some ⟨b11, o11, none⟩) 64 c11) (yG_val _ (by rfl) (fun w' _ => by (go_simp; try rfl))) ?_
  (try simp only [Act.put, List.getElem_toArray, List.getElem_cons_succ, List.getElem_cons_zero, List.setIfInBounds_toArray, List.set_cons_zero, List.set_cons_succ])
  refine wpLA_take (.int .u8 0) (yG_val _ (by rfl) (fun w' _ => by (go_simp; try rfl))) ?_
  (try simp only [Act.put, List.getElem_toArray, List.getElem_cons_succ, List.getElem_cons_zero, List.setIfInBounds_toArray, List.set_cons_zero, List.set_cons_succ])
  refine wpLA_take (.slice (some ⟨b11, o11, none⟩) 64 c11) (yG_val _ (by rfl) (fun w' _ => by (go_simp; try rfl))) ?_
  (try simp only [Act.put, List.getElem_toArray, List.getElem_cons_succ, List.getElem_cons_zero, List.setIfInBounds_toArray, List.set_cons_zero, List.set_cons_succ])
  refine wpLA_take (.int .u8 0) (yG_val _ (by rfl) (fun w' _ => by (go_simp; try rfl))) ?_
  (try simp only [Act.put, List.getElem_toArray, List.getElem_cons_succ, List.getElem_cons_zero, List.setIfInBounds_toArray, List.set_cons_zero, List.set_cons_succ])
  refine wpLA_end ?_
  intro w12 hb
  have S12 := hid (S11.out.on hb)
  clear hb S11
  go_upto_region 9 with fail
  refine wpLA_start ?_
  refine wpLA_take (.int .u8 0) (yG_val _ (by rfl) (fun w' _ => by (go_simp; try rfl))) ?_
  (try simp only [Act.put, List.getElem_toArray, List.getElem_cons_succ, List.getElem_cons_zero, List.setIfInBounds_toArray, List.set_cons_zero, List.set_cons_succ])
  refine wpLA_take (.int .i64 0) (yG_val _ (by rfl) (fun w' _ => by (go_simp; try rfl))) ?_
  (try simp only [Act.put, List.getElem_toArray, List.getElem_cons_succ, List.getElem_cons_zero, List.setIfInBounds_toArray, List.set_cons_zero, List.set_cons_succ])
  refine wpLA_take (.int .u8 0) (yG_val _ (by rfl) (fun w' _ => by (go_simp; try rfl))) ?_
  (try simp only [Act.put, List.getElem_toArray, List.getElem_cons_succ, List.getElem_cons_zero, List.setIfInBounds_toArray, List.set_cons_zero, List.set_cons_succ])
  refine wpLA_take (.int .i64 0) (yG_val _ (by rfl) (fun w' _ => by (go_simp; try rfl))) ?_
  (try simp only [Act.put, List.getElem_toArray, List.getElem_cons_succ, List.getElem_cons_zero, List.setIfInBounds_toArray, List.set_cons_zero, List.set_cons_succ])
  refine wpLA_take (.int .i64 0) (yG_val _ (by rfl) (fun w' _ => by (go_simp; try rfl))) ?_
  (try simp only [Act.put, List.getElem_toArray, List.getElem_cons_succ, List.getElem_cons_zero, List.setIfInBounds_toArray, List.set_cons_zero, List.set_cons_succ])
  refine wpLA_take (.int .u8 0) (yG_val _ (by rfl) (fun w' _ => by (go_simp; try rfl))) ?_
  (try simp only [Act.put, List.getElem_toArray, List.getElem_cons_succ, List.getElem_cons_zero, List.setIfInBounds_toArray, List.set_cons_zero, List.set_cons_succ])
  refine wpLA_take (.int .i64 0) (yG_val _ (by rfl) (fun w' _ => by (go_simp; try rfl))) ?_
  (try simp only [Act.put, List.getElem_toArray, List.getElem_cons_succ, List.getElem_cons_zero, List.setIfInBounds_toArray, List.set_cons_zero, List.set_cons_succ])
  refine wpLA_take (.int .i64 0) (yG_val _ (by rfl) (fun w' _ => by (go_simp; try rfl))) ?_
  (try simp only [Act.put, List.getElem_toArray, List.getElem_cons_succ, List.getElem_cons_zero, List.setIfInBounds_toArray, List.set_cons_zero, List.set_cons_succ])
  refine wpLA_take (.int .u8 0) (yG_val _ (by rfl) (fun w' _ => by (go_simp; try rfl))) ?_
  (try simp only [Act.put, List.getElem_toArray, List.getElem_cons_succ, List.getElem_cons_zero, List.setIfInBounds_toArray, List.set_cons_zero, List.set_cons_succ])
  refine wpLA_take (.int .i64 0) (yG_val _ (by rfl) (fun w' _ => by (go_simp; try rfl))) ?_
  (try simp only [Act.put, List.getElem_toArray, List.getElem_cons_succ, List.getElem_cons_zero, List.setIfInBounds_toArray, List.set_cons_zero, List.set_cons_succ])
  refine wpLA_take (.int .i64 0) (yG_val _ (by rfl) (fun w' _ => by (go_simp; try rfl))) ?_
  (try simp only [Act.put, List.getElem_toArray, List.getElem_cons_succ, List.getElem_cons_zero, List.setIfInBounds_toArray, List.set_cons_zero, List.set_cons_succ])
  refine wpLA_take (.bool false) (yG_val _ (by rfl) (fun w' _ => by (go_simp; try rfl))) ?_
  (try simp only [Act.put, List.getElem_toArray, List.getElem_cons_succ, List.getElem_cons_zero, List.setIfInBounds_toArray, List.set_cons_zero, List.set_cons_succ])
  refine wpLA_take (.bool false) (yG_val _ (by rfl) (fun w' _ => by (go_simp; try rfl))) ?_
  (try simp only [Act.put, List.getElem_toArray, List.getElem_cons_succ, List.getElem_cons_zero, List.setIfInBounds_toArray, List.set_cons_zero, List.set_cons_succ])
  refine wpLA_take (.slice (some ⟨b4, o4, none⟩) 32 c4) (yG_val _ (by rfl) (fun w' _ => by (go_simp; try rfl))) ?_
  (try simp only [Act.put, List.getElem_toArray, List.getElem_cons_succ, List.getElem_cons_zero, List.setIfInBounds_toArray, List.set_cons_zero, List.set_cons_succ])
  refine wpLA_take (.slice A' (ys.length) c') (yG_val _ (by rfl) (fun w' _ => by (go_simp; try rfl))) ?_
  (try simp only [Act.put, List.getElem_toArray, List.getElem_cons_succ, List.getElem_cons_zero, List.setIfInBounds_toArray, List.set_cons_zero, List.set_cons_succ])
  refine wpLA_take (.slice (some ⟨b6, o6, none⟩) 64 c6) (yG_val _ (by rfl) (fun w' _ => by (go_simp; try rfl))) ?_
  (try simp only [Act.put, List.getElem_toArray, List.getElem_cons_succ, List.getElem_cons_zero, List.setIfInBounds_toArray, List.set_cons_zero, List.set_cons_succ])
  refine wpLA_take (.bool true) (yG_call (by rfl) (fun w' => by go_simp) (fun w' hb => KH1.out _ _ _ _ _ _ w' (HG.out.below (S12.out.on hb).below (Nat.le_refl _)) (S12.out.on hb).sq.2.2.2.2.1 (HS'.out.on6 ((S12.out.on hb).below)) (S12.out.on hb).sq.2.2.2.1)) ?_
  (try simp only [Act.put, List.getElem_toArray, List.getElem_cons_succ, List.getElem_cons_zero, List.setIfInBounds_toArray, List.set_cons_zero, List.set_cons_succ])
  refine wpLA_take (.bool false) (yG_val _ (by rfl) (fun w' _ => by (go_simp; try rfl))) ?_
  (try simp only [Act.put, List.getElem_toArray, List.getElem_cons_succ, List.getElem_cons_zero, List.setIfInBounds_toArray, List.set_cons_zero, List.set_cons_succ])
  refine wpLA_take (.bool false) (yG_val _ (by rfl) (fun w' _ => by (go_simp; try rfl))) ?_
  (try simp only [Act.put, List.getElem_toArray, List.getElem_cons_succ, List.getElem_cons_zero, List.setIfInBounds_toArray, List.set_cons_zero, List.set_cons_succ])
  refine wpLA_take (.bool false) (yG_val _ (by rfl) (fun w' _ => by (go_simp; try rfl))) ?_
  (try simp only [Act.put, List.getElem_toArray, List.getElem_cons_succ, List.getElem_cons_zero, List.setIfInBounds_toArray, List.set_cons_zero, List.set_cons_succ])
  refine wpLA_take (.slice (some ⟨b4, o4, none⟩) 32 c4) (yG_val _ (by rfl) (fun w' _ => by (go_simp; try rfl))) ?_
  (try simp only [Act.put, List.getElem_toArray, List.getElem_cons_succ, List.getElem_cons_zero, List.setIfInBounds_toArray, List.set_cons_zero, List.set_cons_succ])
  refine wpLA_take (.string s) (yG_val _ (by rfl) (fun w' _ => by (go_simp; try rfl))) ?_
  (try simp only [Act.put, List.getElem_toArray, List.getElem_cons_succ, List.getElem_cons_zero, List.setIfInBounds_toArray, List.set_cons_zero, List.set_cons_succ])
  refine wpLA_take (.slice A' (ys.length) c') (yG_val _ (by rfl) (fun w' _ => by (go_simp; try rfl))) ?_
  (try simp only [Act.put, List.getElem_toArray, List.getElem_cons_succ, List.getElem_cons_zero, List.setIfInBounds_toArray, List.set_cons_zero, List.set_cons_succ])
  refine wpLA_take (.slice (some ⟨b8, o8, none⟩) 64 c8) (yG_val _ (by rfl) (fun w' _ => by (go_simp; try rfl))) ?_
  (try simp only [Act.put, List.getElem_toArray, List.getElem_cons_succ, List.getElem_cons_zero, List.setIfInBounds_toArray, List.set_cons_zero, List.set_cons_succ])
  refine wpLA_take (.bool true) (yG_call (by rfl) (fun w' => by go_simp) (fun w' hb => KC.out _ _ _ _ _ _ w' (HG.out.below (S12.out.on hb).below (Nat.le_refl _)) (S12.out.on hb).sq.2.2.2.2.1 (HS'.out.on6 ((S12.out.on hb).below)) (S12.out.on hb).sq.2.2.1)) ?_
  (try simp only [Act.put, List.getElem_toArray, List.getElem_cons_succ, List.getElem_cons_zero, List.setIfInBounds_toArray, List.set_cons_zero, List.set_cons_succ])
  refine wpLA_take (.bool false) (yG_val _ (by rfl) (fun w' _ => by (go_simp; try rfl))) ?_
  (try simp only [Act.put, List.getElem_toArray, List.getElem_cons_succ, List.getElem_cons_zero, List.setIfInBounds_toArray, List.set_cons_zero, List.set_cons_succ])
  refine wpLA_take (.bool false) (yG_val _ (by rfl) (fun w' _ => by (go_simp; try rfl))) ?_
  (try simp only [Act.put, List.getElem_toArray, List.getElem_cons_succ, List.getElem_cons_zero, List.setIfInBounds_toArray, List.set_cons_zero, List.set_cons_succ])
  refine wpLA_take (.bool false) (yG_val _ (by rfl) (fun w' _ => by (go_simp; try rfl))) ?_
  (try simp only [Act.put, List.getElem_toArray, List.getElem_cons_succ, List.getElem_cons_zero, List.setIfInBounds_toArray, List.set_cons_zero, List.set_cons_succ])
  refine wpLA_take (.slice (some ⟨b8, o8, none⟩) 64 c8) (yG_val _ (by rfl) (fun w' _ => by (go_simp; try rfl))) ?_
  (try simp only [Act.put, List.getElem_toArray, List.getElem_cons_succ, List.getElem_cons_zero, List.setIfInBounds_toArray, List.set_cons_zero, List.set_cons_succ])
  refine wpLA_take (.slice (some ⟨b11, o11, none⟩) 64 c11) (yG_val _ (by rfl) (fun w' _ => by (go_simp; try rfl))) ?_
  (try simp only [Act.put, List.getElem_toArray, List.getElem_cons_succ, List.getElem_cons_zero, List.setIfInBounds_toArray, List.set_cons_zero, List.set_cons_succ])
  refine wpLA_take (.bool true) (yG_call (by rfl) (fun w' => by go_simp) (fun w' hb => KE0.out _ _ _ _ w' (S12.out.on hb).sq.2.2.1 (S12.out.on hb).sq.1)) ?_
  (try simp only [Act.put, List.getElem_toArray, List.getElem_cons_succ, List.getElem_cons_zero, List.setIfInBounds_toArray, List.set_cons_zero, List.set_cons_succ])
  refine wpLA_take (.bool false) (yG_val _ (by rfl) (fun w' _ => by (go_simp; try rfl))) ?_
  (try simp only [Act.put, List.getElem_toArray, List.getElem_cons_succ, List.getElem_cons_zero, List.setIfInBounds_toArray, List.set_cons_zero, List.set_cons_succ])
  refine wpLA_take (.bool false) (yG_val _ (by rfl) (fun w' _ => by (go_simp; try rfl))) ?_
  (try simp only [Act.put, List.getElem_toArray, List.getElem_cons_succ, List.getElem_cons_zero, List.setIfInBounds_toArray, List.set_cons_zero, List.set_cons_succ])
  refine wpLA_take (.bool false) (yG_val _ (by rfl) (fun w' _ => by (go_simp; try rfl))) ?_
  (try simp only [Act.put, List.getElem_toArray, List.getElem_cons_succ, List.getElem_cons_zero, List.setIfInBounds_toArray, List.set_cons_zero, List.set_cons_succ])
  refine wpLA_take (.slice (some ⟨b4, o4, none⟩) 32 c4) (yG_val _ (by rfl) (fun w' _ => by (go_simp; try rfl))) ?_
  (try simp only [Act.put, List.getElem_toArray, List.getElem_cons_succ, List.getElem_cons_zero, List.setIfInBounds_toArray, List.set_cons_zero, List.set_cons_succ])
  refine wpLA_take (.string s) (yG_val _ (by rfl) (fun w' _ => by (go_simp; try rfl))) ?_
  (try simp only [Act.put, List.getElem_toArray, List.getElem_cons_succ, List.getElem_cons_zero, List.setIfInBounds_toArray, List.set_cons_zero, List.set_cons_succ])
  refine wpLA_take (.slice A' (ys.length) c') (yG_val _ (by rfl) (fun w' _ => by (go_simp; try rfl))) ?_
  (try simp only [Act.put, List.getElem_toArray, List.getElem_cons_succ, List.getElem_cons_zero, List.setIfInBounds_toArray, List.set_cons_zero, List.set_cons_succ])
  refine wpLA_bytes (TX) (by rfl) (fun w' => by go_simp) (fun w' hb => KTX.out _ _ w' (HS'.out.on6 ((S12.out.on hb).below))) ?_
  intro A13 c13 w13 hb hs
  have S13 : Hid (St w w13 [] [(A13, c13, bvs (TX)), ((some ⟨b11, o11, none⟩), c11, bvs (TB)), (A10, c10, bvs (TX)), ((some ⟨b8, o8, none⟩), c8, bvs (TB)), ((some ⟨b6, o6, none⟩), c6, bvs (SB)), ((some ⟨b4, o4, none⟩), c4, bvs (PB))]) := hid ((S12.out.on hb).more hs)
  clear hb hs S12
  (try simp only [Act.put, List.getElem_toArray, List.getElem_cons_succ, List.getElem_cons_zero, List.setIfInBounds_toArray, List.set_cons_zero, List.set_cons_succ])
  refine wpLA_take (.slice (some ⟨b8, o8, none⟩) 64 c8) (yG_val _ (by rfl) (fun w' _ => by (go_simp; try rfl))) ?_
  (try simp only [Act.put, List.getElem_toArray, List.getElem_cons_succ, List.getElem_cons_zero, List.setIfInBounds_toArray, List.set_cons_zero, List.set_cons_succ])
  refine wpLA_take (.bool true) (yG_call (by rfl) (fun w' => by go_simp) (fun w' hb => KH2.out _ _ _ _ _ _ w' (HG.out.below (S13.out.on hb).below (Nat.le_refl _)) (S13.out.on hb).sq.2.2.2.2.2.1 (S13.out.on hb).sq.1 (S13.out.on hb).sq.2.2.2.1)) ?_
  (try simp only [Act.put, List.getElem_toArray, List.getElem_cons_succ, List.getElem_cons_zero, List.setIfInBounds_toArray, List.set_cons_zero, List.set_cons_succ])
  refine wpLA_take (.bool false) (yG_val _ (by rfl) (fun w' _ => by (go_simp; try rfl))) ?_
  (try simp only [Act.put, List.getElem_toArray, List.getElem_cons_succ, List.getElem_cons_zero, List.setIfInBounds_toArray, List.set_cons_zero, List.set_cons_succ])
  refine wpLA_take (.bool false) (yG_val _ (by rfl) (fun w' _ => by (go_simp; try rfl))) ?_
  (try simp only [Act.put, List.getElem_toArray, List.getElem_cons_succ, List.getElem_cons_zero, List.setIfInBounds_toArray, List.set_cons_zero, List.set_cons_succ])
  refine wpLA_end ?_
  intro w14 hb
  have S14 := hid (S13.out.on hb)
  clear hb S13
  go_upto_region 11 with fail
  refine wpLA_start ?_
  refine wpLA_take (.slice (some ⟨b6, o6, none⟩) 64 c6) (yG_val _ (by rfl) (fun w' _ => by (go_simp; try rfl))) ?_
  (try simp only [Act.put, List.getElem_toArray, List.getElem_cons_succ, List.getElem_cons_zero, List.setIfInBounds_toArray, List.set_cons_zero, List.set_cons_succ])
  have HC15 : 64 ≤ c6 := by (have := (S14.out.sq.2.2.2.2.1).cap; rw [bvs_length, LSB.out] at this; exact this.1)
  refine wpLA_take (.slice (some ⟨b6, o6 + 32, none⟩) 32 (c6 - 32)) (yG_val _ (by rfl) (fun w' _ => by (have h1 : (64 : Int) ≤ ((c6 : Nat) : Int) := (by omega); have h2 : (32 : Int) ≤ ((c6 : Nat) : Int) := (by omega); clear HC15; go_simp; try omega; try rfl))) ?_
  (try simp only [Act.put, List.getElem_toArray, List.getElem_cons_succ, List.getElem_cons_zero, List.setIfInBounds_toArray, List.set_cons_zero, List.set_cons_succ])
  have S15 : Hid (St w w14 [] [((some ⟨b6, o6 + 32, none⟩), (c6 - 32), bvs (SB.drop 32)), (A13, c13, bvs (TX)), ((some ⟨b11, o11, none⟩), c11, bvs (TB)), (A10, c10, bvs (TX)), ((some ⟨b8, o8, none⟩), c8, bvs (TB)), ((some ⟨b6, o6, none⟩), c6, bvs (SB)), ((some ⟨b4, o4, none⟩), c4, bvs (PB))]) := hid (S14.out.more (sq_drop (S14.out.sq.2.2.2.2.1) 32 (by rw [LSB.out]; decide)))
  clear HC15 S14
  refine wpLA_big (n6) (by rfl) (fun w' => by go_simp) (fun w' hb => KOF.out _ _ w' (S15.out.on hb).sq.1) ?_
  intro A16 c16 w16 hb hs
  have S16 : Hid (St w w16 [] [(A16, c16, ivs (dg (n6))), ((some ⟨b6, o6 + 32, none⟩), (c6 - 32), bvs (SB.drop 32)), (A13, c13, bvs (TX)), ((some ⟨b11, o11, none⟩), c11, bvs (TB)), (A10, c10, bvs (TX)), ((some ⟨b8, o8, none⟩), c8, bvs (TB)), ((some ⟨b6, o6, none⟩), c6, bvs (SB)), ((some ⟨b4, o4, none⟩), c4, bvs (PB))]) := hid ((S15.out.on hb).more hs)
  clear hb hs S15
  (try simp only [Act.put, List.getElem_toArray, List.getElem_cons_succ, List.getElem_cons_zero, List.setIfInBounds_toArray, List.set_cons_zero, List.set_cons_succ])
  refine wpLA_big (ordL) (by rfl) (fun w' => by go_simp) (fun w' hb => Order_any w') ?_
  intro A17 c17 w17 hb hs
  have S17 : Hid (St w w17 [] [(A17, c17, ivs (dg (ordL))), (A16, c16, ivs (dg (n6))), ((some ⟨b6, o6 + 32, none⟩), (c6 - 32), bvs (SB.drop 32)), (A13, c13, bvs (TX)), ((some ⟨b11, o11, none⟩), c11, bvs (TB)), (A10, c10, bvs (TX)), ((some ⟨b8, o8, none⟩), c8, bvs (TB)), ((some ⟨b6, o6, none⟩), c6, bvs (SB)), ((some ⟨b4, o4, none⟩), c4, bvs (PB))]) := hid ((S16.out.on hb).more hs)
  clear hb hs S16
  (try simp only [Act.put, List.getElem_toArray, List.getElem_cons_succ, List.getElem_cons_zero, List.setIfInBounds_toArray, List.set_cons_zero, List.set_cons_succ])
  refine wpLA_big (n7) (by rfl) (fun w' => by go_simp) (fun w' hb => KAD.out _ _ _ _ w' (S17.out.on hb).sq.2.1 (S17.out.on hb).sq.1) ?_
  intro A18 c18 w18 hb hs
  have S18 : Hid (St w w18 [] [(A18, c18, ivs (dg (n7))), (A17, c17, ivs (dg (ordL))), (A16, c16, ivs (dg (n6))), ((some ⟨b6, o6 + 32, none⟩), (c6 - 32), bvs (SB.drop 32)), (A13, c13, bvs (TX)), ((some ⟨b11, o11, none⟩), c11, bvs (TB)), (A10, c10, bvs (TX)), ((some ⟨b8, o8, none⟩), c8, bvs (TB)), ((some ⟨b6, o6, none⟩), c6, bvs (SB)), ((some ⟨b4, o4, none⟩), c4, bvs (PB))]) := hid ((S17.out.on hb).more hs)
  clear hb hs S17
  (try simp only [Act.put, List.getElem_toArray, List.getElem_cons_succ, List.getElem_cons_zero, List.setIfInBounds_toArray, List.set_cons_zero, List.set_cons_succ])
  refine wpLA_take (.slice A18 ((dg (n7)).length) c18) (yG_val _ (by rfl) (fun w' _ => by (go_simp; try rfl))) ?_
  (try simp only [Act.put, List.getElem_toArray, List.getElem_cons_succ, List.getElem_cons_zero, List.setIfInBounds_toArray, List.set_cons_zero, List.set_cons_succ])
  refine wpLA_end ?_
  intro w19 hb
  have S19 := hid (S18.out.on hb)
  clear hb S18
  go_upto_region 12 with fail
  refine wpLA_start ?_
  refine wpLA_empty (by rfl) (fun w' => by (go_simp; try rfl)) ?_
  intro p20 w20 hb ho
  have HB20 : Hid (Below w19.heap.size w19 w20) := hid hb
  have O20 := hid ho
  have S20 : Hid (St w w20 [] [(A18, c18, ivs (dg (n7))), (A17, c17, ivs (dg (ordL))), (A16, c16, ivs (dg (n6))), ((some ⟨b6, o6 + 32, none⟩), (c6 - 32), bvs (SB.drop 32)), (A13, c13, bvs (TX)), ((some ⟨b11, o11, none⟩), c11, bvs (TB)), (A10, c10, bvs (TX)), ((some ⟨b8, o8, none⟩), c8, bvs (TB)), ((some ⟨b6, o6, none⟩), c6, bvs (SB)), ((some ⟨b4, o4, none⟩), c4, bvs (PB))]) := hid (S19.out.on hb)
  clear hb ho
  (try simp only [Act.put, List.getElem_toArray, List.getElem_cons_succ, List.getElem_cons_zero, List.setIfInBounds_toArray, List.set_cons_zero, List.set_cons_succ])
  refine wpLA_take (.slice (some ⟨b6, o6, none⟩) 64 c6) (yG_val _ (by rfl) (fun w' _ => by (go_simp; try rfl))) ?_
  (try simp only [Act.put, List.getElem_toArray, List.getElem_cons_succ, List.getElem_cons_zero, List.setIfInBounds_toArray, List.set_cons_zero, List.set_cons_succ])
  have HC21 : 64 ≤ c6 := by (have := (S20.out.sq.2.2.2.2.2.2.2.2.1).cap; rw [bvs_length, LSB.out] at this; exact this.1)
  refine wpLA_take (.slice (some ⟨b6, o6, none⟩) 32 c6) (yG_val _ (by rfl) (fun w' _ => by (have h1 : (64 : Int) ≤ ((c6 : Nat) : Int) := (by omega); have h2 : (32 : Int) ≤ ((c6 : Nat) : Int) := (by omega); clear HC21; go_simp; try omega; try rfl))) ?_
  (try simp only [Act.put, List.getElem_toArray, List.getElem_cons_succ, List.getElem_cons_zero, List.setIfInBounds_toArray, List.set_cons_zero, List.set_cons_succ])
  have S21 : Hid (St w w20 [] [((some ⟨b6, o6, none⟩), c6, bvs (SB.take 32)), (A18, c18, ivs (dg (n7))), (A17, c17, ivs (dg (ordL))), (A16, c16, ivs (dg (n6))), ((some ⟨b6, o6 + 32, none⟩), (c6 - 32), bvs (SB.drop 32)), (A13, c13, bvs (TX)), ((some ⟨b11, o11, none⟩), c11, bvs (TB)), (A10, c10, bvs (TX)), ((some ⟨b8, o8, none⟩), c8, bvs (TB)), ((some ⟨b6, o6, none⟩), c6, bvs (SB)), ((some ⟨b4, o4, none⟩), c4, bvs (PB))]) := hid (S20.out.more (sq_take (S20.out.sq.2.2.2.2.2.2.2.2.1) 32))
  clear HC21 S20
  refine wpLA_append EX0.out (B := w19.heap.size) (xs := ([] : List UInt8)) (ys := (SB.take 32)) (by rfl) _ _ _ rfl Tryz.underlying22 infoU8 rfl O20.out (by rw [List.length_take, LSB.out]; rfl) rfl ((S21.out).sq.1) (by have := LX0.out; rw [EX0.out] at this; simp only [List.length_append, List.length_nil] at this ⊢; omega) HB20.out.size ?_
  intro A22 c22 w22 ho hb
  have HB22 := hid (HB20.out.trans hb)
  have O22 := hid ho
  have S22 : Hid (St w w22 [] [(A22, c22, bvs X0), (A18, c18, ivs (dg (n7))), (A17, c17, ivs (dg (ordL))), (A16, c16, ivs (dg (n6))), ((some ⟨b6, o6 + 32, none⟩), (c6 - 32), bvs (SB.drop 32)), (A13, c13, bvs (TX)), ((some ⟨b11, o11, none⟩), c11, bvs (TB)), (A10, c10, bvs (TX)), ((some ⟨b8, o8, none⟩), c8, bvs (TB)), ((some ⟨b6, o6, none⟩), c6, bvs (SB)), ((some ⟨b4, o4, none⟩), c4, bvs (PB))]) := hid ((S19.out.on HB22.out).more (ownB_sq ho))
  clear ho hb S21 HB20 O20
  (try simp only [Act.put, List.getElem_toArray, List.getElem_cons_succ, List.getElem_cons_zero, List.setIfInBounds_toArray, List.set_cons_zero, List.set_cons_succ])
  refine wpLA_take (.slice A18 ((dg (n7)).length) c18) (yG_val _ (by rfl) (fun w' _ => by (go_simp; try rfl))) ?_
  (try simp only [Act.put, List.getElem_toArray, List.getElem_cons_succ, List.getElem_cons_zero, List.setIfInBounds_toArray, List.set_cons_zero, List.set_cons_succ])
  refine wpLA_bytes (leB 32 n7) (by rfl) (fun w' => by go_simp) (fun w' hb => KB7.out _ _ w' (S22.out.on hb).sq.2.1) ?_
  intro A23 c23 w23 hb hs
  have HB23 := hid (HB22.out.trans (hb.mono HB22.out.size))
  have O23 := hid (ownB_on O22.out hb)
  clear HB22 O22
  have S23 : Hid (St w w23 [] [(A23, c23, bvs (leB 32 n7)), (A22, c22, bvs X0), (A18, c18, ivs (dg (n7))), (A17, c17, ivs (dg (ordL))), (A16, c16, ivs (dg (n6))), ((some ⟨b6, o6 + 32, none⟩), (c6 - 32), bvs (SB.drop 32)), (A13, c13, bvs (TX)), ((some ⟨b11, o11, none⟩), c11, bvs (TB)), (A10, c10, bvs (TX)), ((some ⟨b8, o8, none⟩), c8, bvs (TB)), ((some ⟨b6, o6, none⟩), c6, bvs (SB)), ((some ⟨b4, o4, none⟩), c4, bvs (PB))]) := hid ((S22.out.on hb).more hs)
  clear hb hs S22
  (try simp only [Act.put, List.getElem_toArray, List.getElem_cons_succ, List.getElem_cons_zero, List.setIfInBounds_toArray, List.set_cons_zero, List.set_cons_succ])
  refine wpLA_append EX1.out (B := w19.heap.size) (xs := X0) (ys := leB 32 n7) (by rfl) _ _ _ rfl Tryz.underlying22 infoU8 rfl O23.out rfl rfl ((S23.out).sq.1) (by have := LX1.out; rw [EX1.out] at this; simp only [List.length_append, List.length_nil] at this ⊢; omega) HB23.out.size ?_
  intro A24 c24 w24 ho hb
  have HB24 := hid (HB23.out.trans hb)
  have O24 := hid ho
  have S24 : Hid (St w w24 [] [(A24, c24, bvs X1), (A18, c18, ivs (dg (n7))), (A17, c17, ivs (dg (ordL))), (A16, c16, ivs (dg (n6))), ((some ⟨b6, o6 + 32, none⟩), (c6 - 32), bvs (SB.drop 32)), (A13, c13, bvs (TX)), ((some ⟨b11, o11, none⟩), c11, bvs (TB)), (A10, c10, bvs (TX)), ((some ⟨b8, o8, none⟩), c8, bvs (TB)), ((some ⟨b6, o6, none⟩), c6, bvs (SB)), ((some ⟨b4, o4, none⟩), c4, bvs (PB))]) := hid ((S19.out.on HB24.out).more (ownB_sq ho))
  clear ho hb S23 HB23 O23
  (try simp only [Act.put, List.getElem_toArray, List.getElem_cons_succ, List.getElem_cons_zero, List.setIfInBounds_toArray, List.set_cons_zero, List.set_cons_succ])
  refine wpLA_take (.slice A24 (X1.length) c24) (yG_val _ (by rfl) (fun w' _ => by (go_simp; try rfl))) ?_
  (try simp only [Act.put, List.getElem_toArray, List.getElem_cons_succ, List.getElem_cons_zero, List.setIfInBounds_toArray, List.set_cons_zero, List.set_cons_succ])
  refine wpLA_end ?_
  intro w25 hb
  have S25 := hid (S24.out.on hb)
  clear hb S24
  clear S19 HB24 O24
  go_upto_region 13 with fail
  refine wpLA_start ?_
  refine wpLA_take (.slice (some ⟨b0, o0, none⟩) 32 c) (yG_val _ (by rfl) (fun w' _ => by (go_simp; try rfl))) ?_
  (try simp only [Act.put, List.getElem_toArray, List.getElem_cons_succ, List.getElem_cons_zero, List.setIfInBounds_toArray, List.set_cons_zero, List.set_cons_succ])
  have HC26 : 32 ≤ c := by (have := (HS.out.on6 S25.out.below).cap; rw [bvs_length, LXS.out] at this; exact this.1)
  refine wpLA_take (.slice (some ⟨b0, o0, none⟩) 31 c) (yG_val _ (by rfl) (fun w' _ => by (have h1 : (32 : Int) ≤ ((c : Nat) : Int) := (by omega); have h2 : (31 : Int) ≤ ((c : Nat) : Int) := (by omega); clear HC26; go_simp; try omega; try rfl))) ?_
  (try simp only [Act.put, List.getElem_toArray, List.getElem_cons_succ, List.getElem_cons_zero, List.setIfInBounds_toArray, List.set_cons_zero, List.set_cons_succ])
  have S26 : Hid (St w w25 [] [((some ⟨b0, o0, none⟩), c, bvs (xs.take 31)), (A24, c24, bvs X1), (A18, c18, ivs (dg (n7))), (A17, c17, ivs (dg (ordL))), (A16, c16, ivs (dg (n6))), ((some ⟨b6, o6 + 32, none⟩), (c6 - 32), bvs (SB.drop 32)), (A13, c13, bvs (TX)), ((some ⟨b11, o11, none⟩), c11, bvs (TB)), (A10, c10, bvs (TX)), ((some ⟨b8, o8, none⟩), c8, bvs (TB)), ((some ⟨b6, o6, none⟩), c6, bvs (SB)), ((some ⟨b4, o4, none⟩), c4, bvs (PB))]) := hid (S25.out.more (sq_take (HS.out.on6 S25.out.below) 31))
  clear HC26 S25
  refine wpLA_take (.string s) (yG_val _ (by rfl) (fun w' _ => by (go_simp; try rfl))) ?_
  (try simp only [Act.put, List.getElem_toArray, List.getElem_cons_succ, List.getElem_cons_zero, List.setIfInBounds_toArray, List.set_cons_zero, List.set_cons_succ])
  refine wpLA_take (.slice A' (ys.length) c') (yG_val _ (by rfl) (fun w' _ => by (go_simp; try rfl))) ?_
  (try simp only [Act.put, List.getElem_toArray, List.getElem_cons_succ, List.getElem_cons_zero, List.setIfInBounds_toArray, List.set_cons_zero, List.set_cons_succ])
  refine wpLA_sgN (by rfl) (fun w' => by go_simp) (fun w' hb => KL31.out _ _ _ _ w' (HG.out.below (S26.out.on hb).below (Nat.le_refl _)) (S26.out.on hb).sq.1 (HS'.out.on6 ((S26.out.on hb).below))) ?_
  intro A27 c27 w27 hb
  have S27 : Hid (St w w27 [] [((some ⟨b0, o0, none⟩), c, bvs (xs.take 31)), (A24, c24, bvs X1), (A18, c18, ivs (dg (n7))), (A17, c17, ivs (dg (ordL))), (A16, c16, ivs (dg (n6))), ((some ⟨b6, o6 + 32, none⟩), (c6 - 32), bvs (SB.drop 32)), (A13, c13, bvs (TX)), ((some ⟨b11, o11, none⟩), c11, bvs (TB)), (A10, c10, bvs (TX)), ((some ⟨b8, o8, none⟩), c8, bvs (TB)), ((some ⟨b6, o6, none⟩), c6, bvs (SB)), ((some ⟨b4, o4, none⟩), c4, bvs (PB))]) := hid (S26.out.on hb)
  clear hb S26
  (try simp only [Act.put, List.getElem_toArray, List.getElem_cons_succ, List.getElem_cons_zero, List.setIfInBounds_toArray, List.set_cons_zero, List.set_cons_succ])
  refine wpLA_take (.tuple #[(.slice A27 0 c27), (.int .u8 1)]) (yG_val _ (by rfl) (fun w' _ => by (go_simp; try rfl))) ?_
  (try simp only [Act.put, List.getElem_toArray, List.getElem_cons_succ, List.getElem_cons_zero, List.setIfInBounds_toArray, List.set_cons_zero, List.set_cons_succ])
  refine wpLA_take (.slice A27 0 c27) (yG_val _ (by rfl) (fun w' _ => by (go_simp; try rfl))) ?_
  (try simp only [Act.put, List.getElem_toArray, List.getElem_cons_succ, List.getElem_cons_zero, List.setIfInBounds_toArray, List.set_cons_zero, List.set_cons_succ])
  refine wpLA_take (.int .u8 1) (yG_val _ (by rfl) (fun w' _ => by (go_simp; try rfl))) ?_
  (try simp only [Act.put, List.getElem_toArray, List.getElem_cons_succ, List.getElem_cons_zero, List.setIfInBounds_toArray, List.set_cons_zero, List.set_cons_succ])
  refine wpLA_take (.slice A27 0 c27) (yG_val _ (by rfl) (fun w' _ => by (go_simp; try rfl))) ?_
  (try simp only [Act.put, List.getElem_toArray, List.getElem_cons_succ, List.getElem_cons_zero, List.setIfInBounds_toArray, List.set_cons_zero, List.set_cons_succ])
  refine wpLA_take (.int .u8 1) (yG_val _ (by rfl) (fun w' _ => by (go_simp; try rfl))) ?_
  (try simp only [Act.put, List.getElem_toArray, List.getElem_cons_succ, List.getElem_cons_zero, List.setIfInBounds_toArray, List.set_cons_zero, List.set_cons_succ])
  refine wpLA_end ?_
  intro w28 hb
  have S28 := hid (S27.out.on hb)
  clear hb S27
  go_upto_region 14 with fail
  refine wpLA_start ?_
  refine wpLA_take (.slice (some ⟨b0, o0, none⟩) 32 c) (yG_val _ (by rfl) (fun w' _ => by (go_simp; try rfl))) ?_
  (try simp only [Act.put, List.getElem_toArray, List.getElem_cons_succ, List.getElem_cons_zero, List.setIfInBounds_toArray, List.set_cons_zero, List.set_cons_succ])
  refine wpLA_take (.slice A' (ys.length) c') (yG_val _ (by rfl) (fun w' _ => by (go_simp; try rfl))) ?_
  (try simp only [Act.put, List.getElem_toArray, List.getElem_cons_succ, List.getElem_cons_zero, List.setIfInBounds_toArray, List.set_cons_zero, List.set_cons_succ])
  refine wpLA_sgS (xs := SB) (n := 64) LSB.out (by decide) (by rfl) (fun w' => by go_simp) (fun w' hb => KS.out _ _ _ _ w' (HG.out.below (S28.out.on hb).below (Nat.le_refl _)) (HS.out.on6 ((S28.out.on hb).below)) (HS'.out.on6 ((S28.out.on hb).below))) ?_
  intro b29 o29 c29 w29 hb hs
  have S29 : Hid (St w w29 [] [((some ⟨b29, o29, none⟩), c29, bvs (SB)), ((some ⟨b0, o0, none⟩), c, bvs (xs.take 31)), (A24, c24, bvs X1), (A18, c18, ivs (dg (n7))), (A17, c17, ivs (dg (ordL))), (A16, c16, ivs (dg (n6))), ((some ⟨b6, o6 + 32, none⟩), (c6 - 32), bvs (SB.drop 32)), (A13, c13, bvs (TX)), ((some ⟨b11, o11, none⟩), c11, bvs (TB)), (A10, c10, bvs (TX)), ((some ⟨b8, o8, none⟩), c8, bvs (TB)), ((some ⟨b6, o6, none⟩), c6, bvs (SB)), ((some ⟨b4, o4, none⟩), c4, bvs (PB))]) := hid ((S28.out.on hb).more hs)
  clear hb hs S28
  (try simp only [Act.put, List.getElem_toArray, List.getElem_cons_succ, List.getElem_cons_zero, List.setIfInBounds_toArray, List.set_cons_zero, List.set_cons_succ])
  refine wpLA_take (.tuple #[(.slice (some ⟨b29, o29, none⟩) 64 c29), (.int .u8 0)]) (yG_val _ (by rfl) (fun w' _ => by (go_simp; try rfl))) ?_
  (try simp only [Act.put, List.getElem_toArray, List.getElem_cons_succ, List.getElem_cons_zero, List.setIfInBounds_toArray, List.set_cons_zero, List.set_cons_succ])
  refine wpLA_take (.slice (some ⟨b29, o29, none⟩) 64 c29) (yG_val _ (by rfl) (fun w' _ => by (go_simp; try rfl))) ?_
  (try simp only [Act.put, List.getElem_toArray, List.getElem_cons_succ, List.getElem_cons_zero, List.setIfInBounds_toArray, List.set_cons_zero, List.set_cons_succ])
  refine wpLA_take (.int .u8 0) (yG_val _ (by rfl) (fun w' _ => by (go_simp; try rfl))) ?_
  (try simp only [Act.put, List.getElem_toArray, List.getElem_cons_succ, List.getElem_cons_zero, List.setIfInBounds_toArray, List.set_cons_zero, List.set_cons_succ])
  refine wpLA_take (.slice (some ⟨b29, o29, none⟩) 64 c29) (yG_val _ (by rfl) (fun w' _ => by (go_simp; try rfl))) ?_
  (try simp only [Act.put, List.getElem_toArray, List.getElem_cons_succ, List.getElem_cons_zero, List.setIfInBounds_toArray, List.set_cons_zero, List.set_cons_succ])
  refine wpLA_take (.int .u8 0) (yG_val _ (by rfl) (fun w' _ => by (go_simp; try rfl))) ?_
  (try simp only [Act.put, List.getElem_toArray, List.getElem_cons_succ, List.getElem_cons_zero, List.setIfInBounds_toArray, List.set_cons_zero, List.set_cons_succ])
  refine wpLA_end ?_
  intro w30 hb
  have S30 := hid (S29.out.on hb)
  clear hb S29
  go_upto_region 15 with fail
  refine wpLA_start ?_
  refine wpLA_take (.slice (some ⟨b4, o4, none⟩) 32 c4) (yG_val _ (by rfl) (fun w' _ => by (go_simp; try rfl))) ?_
  (try simp only [Act.put, List.getElem_toArray, List.getElem_cons_succ, List.getElem_cons_zero, List.setIfInBounds_toArray, List.set_cons_zero, List.set_cons_succ])
  refine wpLA_take (.slice A' (ys.length) c') (yG_val _ (by rfl) (fun w' _ => by (go_simp; try rfl))) ?_
  (try simp only [Act.put, List.getElem_toArray, List.getElem_cons_succ, List.getElem_cons_zero, List.setIfInBounds_toArray, List.set_cons_zero, List.set_cons_succ])
  refine wpLA_take (.slice A24 (X1.length) c24) (yG_val _ (by rfl) (fun w' _ => by (go_simp; try rfl))) ?_
  (try simp only [Act.put, List.getElem_toArray, List.getElem_cons_succ, List.getElem_cons_zero, List.setIfInBounds_toArray, List.set_cons_zero, List.set_cons_succ])
  refine wpLA_take (.bool false) (yG_call (by rfl) (fun w' => by go_simp) (fun w' hb => KH3.out _ _ _ _ _ _ w' (HG.out.below (S30.out.on hb).below (Nat.le_refl _)) (S30.out.on hb).sq.2.2.2.2.2.2.2.2.2.2.2.2.1 (HS'.out.on6 ((S30.out.on hb).below)) (S30.out.on hb).sq.2.2.1)) ?_
  (try simp only [Act.put, List.getElem_toArray, List.getElem_cons_succ, List.getElem_cons_zero, List.setIfInBounds_toArray, List.set_cons_zero, List.set_cons_succ])
  refine wpLA_take (.bool true) (yG_val _ (by rfl) (fun w' _ => by (go_simp; try rfl))) ?_
  (try simp only [Act.put, List.getElem_toArray, List.getElem_cons_succ, List.getElem_cons_zero, List.setIfInBounds_toArray, List.set_cons_zero, List.set_cons_succ])
  refine wpLA_take (.bool true) (yG_val _ (by rfl) (fun w' _ => by (go_simp; try rfl))) ?_
  (try simp only [Act.put, List.getElem_toArray, List.getElem_cons_succ, List.getElem_cons_zero, List.setIfInBounds_toArray, List.set_cons_zero, List.set_cons_succ])
  refine wpLA_take (.int .u8 1) (yG_val _ (by rfl) (fun w' _ => by (go_simp; try rfl))) ?_
  (try simp only [Act.put, List.getElem_toArray, List.getElem_cons_succ, List.getElem_cons_zero, List.setIfInBounds_toArray, List.set_cons_zero, List.set_cons_succ])
  refine wpLA_take (.int .i64 1) (yG_val _ (by rfl) (fun w' _ => by (go_simp; try rfl))) ?_
  (try simp only [Act.put, List.getElem_toArray, List.getElem_cons_succ, List.getElem_cons_zero, List.setIfInBounds_toArray, List.set_cons_zero, List.set_cons_succ])
  refine wpLA_take (.bool true) (yG_val _ (by rfl) (fun w' _ => by (go_simp; try rfl))) ?_
  (try simp only [Act.put, List.getElem_toArray, List.getElem_cons_succ, List.getElem_cons_zero, List.setIfInBounds_toArray, List.set_cons_zero, List.set_cons_succ])
  refine wpLA_take (.bool true) (yG_val _ (by rfl) (fun w' _ => by (go_simp; try rfl))) ?_
  (try simp only [Act.put, List.getElem_toArray, List.getElem_cons_succ, List.getElem_cons_zero, List.setIfInBounds_toArray, List.set_cons_zero, List.set_cons_succ])
  refine wpLA_take (.bool true) (yG_val _ (by rfl) (fun w' _ => by (go_simp; try rfl))) ?_
  (try simp only [Act.put, List.getElem_toArray, List.getElem_cons_succ, List.getElem_cons_zero, List.setIfInBounds_toArray, List.set_cons_zero, List.set_cons_succ])
  refine wpLA_take (.int .u8 0) (yG_val _ (by rfl) (fun w' _ => by (go_simp; try rfl))) ?_
  (try simp only [Act.put, List.getElem_toArray, List.getElem_cons_succ, List.getElem_cons_zero, List.setIfInBounds_toArray, List.set_cons_zero, List.set_cons_succ])
  refine wpLA_take (.int .i64 0) (yG_val _ (by rfl) (fun w' _ => by (go_simp; try rfl))) ?_
  (try simp only [Act.put, List.getElem_toArray, List.getElem_cons_succ, List.getElem_cons_zero, List.setIfInBounds_toArray, List.set_cons_zero, List.set_cons_succ])
  refine wpLA_take (.bool true) (yG_val _ (by rfl) (fun w' _ => by (go_simp; try rfl))) ?_
  (try simp only [Act.put, List.getElem_toArray, List.getElem_cons_succ, List.getElem_cons_zero, List.setIfInBounds_toArray, List.set_cons_zero, List.set_cons_succ])
  refine wpLA_take (.bool true) (yG_val _ (by rfl) (fun w' _ => by (go_simp; try rfl))) ?_
  (try simp only [Act.put, List.getElem_toArray, List.getElem_cons_succ, List.getElem_cons_zero, List.setIfInBounds_toArray, List.set_cons_zero, List.set_cons_succ])
  refine wpLA_take (.bool true) (yG_val _ (by rfl) (fun w' _ => by (go_simp; try rfl))) ?_
  (try simp only [Act.put, List.getElem_toArray, List.getElem_cons_succ, List.getElem_cons_zero, List.setIfInBounds_toArray, List.set_cons_zero, List.set_cons_succ])
  refine wpLA_take (.slice (some ⟨b29, o29, none⟩) 64 c29) (yG_val _ (by rfl) (fun w' _ => by (go_simp; try rfl))) ?_
  (try simp only [Act.put, List.getElem_toArray, List.getElem_cons_succ, List.getElem_cons_zero, List.setIfInBounds_toArray, List.set_cons_zero, List.set_cons_succ])
  refine wpLA_take (.slice (some ⟨b6, o6, none⟩) 64 c6) (yG_val _ (by rfl) (fun w' _ => by (go_simp; try rfl))) ?_
  (try simp only [Act.put, List.getElem_toArray, List.getElem_cons_succ, List.getElem_cons_zero, List.setIfInBounds_toArray, List.set_cons_zero, List.set_cons_succ])
  refine wpLA_take (.bool true) (yG_call (by rfl) (fun w' => by go_simp) (fun w' hb => KE1.out _ _ _ _ w' (S30.out.on hb).sq.1 (S30.out.on hb).sq.2.2.2.2.2.2.2.2.2.2.2.1)) ?_
  (try simp only [Act.put, List.getElem_toArray, List.getElem_cons_succ, List.getElem_cons_zero, List.setIfInBounds_toArray, List.set_cons_zero, List.set_cons_succ])
  refine wpLA_take (.bool true) (yG_val _ (by rfl) (fun w' _ => by (go_simp; try rfl))) ?_
  (try simp only [Act.put, List.getElem_toArray, List.getElem_cons_succ, List.getElem_cons_zero, List.setIfInBounds_toArray, List.set_cons_zero, List.set_cons_succ])
  refine wpLA_take (.bool true) (yG_val _ (by rfl) (fun w' _ => by (go_simp; try rfl))) ?_
  (try simp only [Act.put, List.getElem_toArray, List.getElem_cons_succ, List.getElem_cons_zero, List.setIfInBounds_toArray, List.set_cons_zero, List.set_cons_succ])
  refine wpLA_take (.slice (some ⟨b4, o4, none⟩) 32 c4) (yG_val _ (by rfl) (fun w' _ => by (go_simp; try rfl))) ?_
  (try simp only [Act.put, List.getElem_toArray, List.getElem_cons_succ, List.getElem_cons_zero, List.setIfInBounds_toArray, List.set_cons_zero, List.set_cons_succ])
  have HC31 : 32 ≤ c4 := by (have := (S30.out.sq.2.2.2.2.2.2.2.2.2.2.2.2.1).cap; rw [bvs_length, LPB.out] at this; exact this.1)
  refine wpLA_take (.slice (some ⟨b4, o4, none⟩) 31 c4) (yG_val _ (by rfl) (fun w' _ => by (have h1 : (32 : Int) ≤ ((c4 : Nat) : Int) := (by omega); have h2 : (31 : Int) ≤ ((c4 : Nat) : Int) := (by omega); clear HC31; go_simp; try omega; try rfl))) ?_
  (try simp only [Act.put, List.getElem_toArray, List.getElem_cons_succ, List.getElem_cons_zero, List.setIfInBounds_toArray, List.set_cons_zero, List.set_cons_succ])
  have S31 : Hid (St w w30 [] [((some ⟨b4, o4, none⟩), c4, bvs (PB.take 31)), ((some ⟨b29, o29, none⟩), c29, bvs (SB)), ((some ⟨b0, o0, none⟩), c, bvs (xs.take 31)), (A24, c24, bvs X1), (A18, c18, ivs (dg (n7))), (A17, c17, ivs (dg (ordL))), (A16, c16, ivs (dg (n6))), ((some ⟨b6, o6 + 32, none⟩), (c6 - 32), bvs (SB.drop 32)), (A13, c13, bvs (TX)), ((some ⟨b11, o11, none⟩), c11, bvs (TB)), (A10, c10, bvs (TX)), ((some ⟨b8, o8, none⟩), c8, bvs (TB)), ((some ⟨b6, o6, none⟩), c6, bvs (SB)), ((some ⟨b4, o4, none⟩), c4, bvs (PB))]) := hid (S30.out.more (sq_take (S30.out.sq.2.2.2.2.2.2.2.2.2.2.2.2.1) 31))
  clear HC31 S30
  refine wpLA_take (.slice A' (ys.length) c') (yG_val _ (by rfl) (fun w' _ => by (go_simp; try rfl))) ?_
  (try simp only [Act.put, List.getElem_toArray, List.getElem_cons_succ, List.getElem_cons_zero, List.setIfInBounds_toArray, List.set_cons_zero, List.set_cons_succ])
  refine wpLA_take (.slice (some ⟨b6, o6, none⟩) 64 c6) (yG_val _ (by rfl) (fun w' _ => by (go_simp; try rfl))) ?_
  (try simp only [Act.put, List.getElem_toArray, List.getElem_cons_succ, List.getElem_cons_zero, List.setIfInBounds_toArray, List.set_cons_zero, List.set_cons_succ])
  refine wpLA_take (.bool false) (yG_call (by rfl) (fun w' => by go_simp) (fun w' hb => KH4.out _ _ _ _ _ _ w' (HG.out.below (S31.out.on hb).below (Nat.le_refl _)) (S31.out.on hb).sq.1 (HS'.out.on6 ((S31.out.on hb).below)) (S31.out.on hb).sq.2.2.2.2.2.2.2.2.2.2.2.2.1)) ?_
  (try simp only [Act.put, List.getElem_toArray, List.getElem_cons_succ, List.getElem_cons_zero, List.setIfInBounds_toArray, List.set_cons_zero, List.set_cons_succ])
  refine wpLA_take (.bool true) (yG_val _ (by rfl) (fun w' _ => by (go_simp; try rfl))) ?_
  (try simp only [Act.put, List.getElem_toArray, List.getElem_cons_succ, List.getElem_cons_zero, List.setIfInBounds_toArray, List.set_cons_zero, List.set_cons_succ])
  refine wpLA_take (.bool true) (yG_val _ (by rfl) (fun w' _ => by (go_simp; try rfl))) ?_
  (try simp only [Act.put, List.getElem_toArray, List.getElem_cons_succ, List.getElem_cons_zero, List.setIfInBounds_toArray, List.set_cons_zero, List.set_cons_succ])
  refine wpLA_take (.bool true) (yG_val _ (by rfl) (fun w' _ => by (go_simp; try rfl))) ?_
  (try simp only [Act.put, List.getElem_toArray, List.getElem_cons_succ, List.getElem_cons_zero, List.setIfInBounds_toArray, List.set_cons_zero, List.set_cons_succ])
  refine wpLA_end ?_
  intro w32 hb
  have S32 := hid (S31.out.on hb)
  clear hb S31
  go_wp2_with fail
  go_ret
  exact ⟨rfl, S32.out.below⟩
set_option maxRecDepth 100000 in
theorem back10_any (A : Option Addr) (xs : List UInt8) (c : Nat) (A' : Option Addr) (ys : List UInt8) (c' : Nat) (s : ByteArray) (w : World) (hS : Sq w w.heap.size A c (bvs xs)) (hS' : Sq w w.heap.size A' c' (bvs ys)) (hG : GlobL w) :
    Calls Tryz.prog 4 #[.slice A xs.length c, .slice A' ys.length c', .string s] w fun e w' => e = .returned (.bool true) ∧ Below w.heap.size w w' := by
  by_cases h32 : xs.length = 32
  · by_cases hy : 300 < ys.length
    · have hyi : (300 : Int) < (ys.length : Int) := by omega
      have HAL := hid (alive10_any w hG)
      rw [h32]
      clear hG hS hS' hy h32
      go_enter Tryz.func4, Tryz.ntmps4
      go_wp2_with fail
      refine HAL.out.mono ?_
      rintro e w1 ⟨rfl, hb1⟩
      go_wp2
      go_ret
      exact ⟨rfl, hb1⟩
    by_cases hs : 60 < s.size
    · have hyi : ¬ (300 : Int) < (ys.length : Int) := by omega
      have hsi : (60 : Int) < (s.size : Int) := by omega
      have HAL := hid (alive10_any w hG)
      rw [h32]
      clear hG hS hS' hy h32 hs
      go_enter Tryz.func4, Tryz.ntmps4
      go_wp2_with fail
      refine HAL.out.mono ?_
      rintro e w1 ⟨rfl, hb1⟩
      go_wp2
      go_ret
      exact ⟨rfl, hb1⟩
    have := back_some A xs c A' ys c' s w hG hS hS' (by omega) (by omega) h32
    rw [h32]
    exact this
  · have hxi : ((xs.length : Int) == 32) = false := by rw [beq_eq_false_iff_ne]; omega
    have hx2 : ¬ (xs.length : Int) = 32 := by omega
    have HAL := hid (alive10_any w hG)
    clear hG hS hS' h32
    go_enter Tryz.func4, Tryz.ntmps4
    go_wp2_with fail
    refine HAL.out.mono ?_
    rintro e w1 ⟨rfl, hb1⟩
    go_wp2
    go_ret
    exact ⟨rfl, hb1⟩
end Go.Proofs.YtheamlhhfkaknaaGreatDoor
end
