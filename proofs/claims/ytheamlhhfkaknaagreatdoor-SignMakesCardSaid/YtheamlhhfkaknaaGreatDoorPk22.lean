/-
  Texts of this claim in one file: Law10a, Law10b.
-/
import Derived.Test.YtheamlhhfkaknaaGreatDoorPk3
import Derived.Test.YtheamlhhfkaknaaGreatDoorPk23
import Derived.Test.YtheamlhhfkaknaaGreatDoorPk10
import Derived.Test.YtheamlhhfkaknaaGreatDoorPk21
section
namespace Go.Proofs.YtheamlhhfkaknaaGreatDoor
open Go Go.RowKit
set_option linter.unusedVariables false
set_option linter.unusedSimpArgs false
set_option maxHeartbeats 1000000 in
theorem alive10_any (w : World) (hG : GlobL w) : Calls Tryz.prog 5 #[] w fun e w' => e = .returned (.bool true) ∧ Below w.heap.size w w' := by
  have HG := hid hG
  have hl : zB.length = 32 := List.length_replicate
  have KP : Hid (∀ (A : Option Addr) (c : Nat) (W : World), GlobL W → Sq W W.heap.size A c (bvs zB) → Calls Tryz.prog 6 #[.slice A 32 c] W (SgR W (some (pubB zB)))) := hid fun A c W hG h => by
    have := SgPublic A zB c W hG h (by rw [hl]; decide)
    unfold pubO at this; rw [if_pos hl, hl] at this; exact this
  have HPB := hid zB_at
  obtain ⟨PB, ePB⟩ : ∃ l, l = pubB zB := ⟨_, rfl⟩
  have LPB : Hid (PB.length = 32) := hid (by rw [ePB]; exact pubB_length _)
  have KH : Hid (∀ (A : Option Addr) (c : Nat) (A2 : Option Addr) (c2 : Nat) (W : World), GlobL W → Sq W W.heap.size A c (bvs PB) → Sq W W.heap.size A2 c2 (bvs (List.replicate 63 0)) → Calls Tryz.prog 25 #[.slice A 32 c, .slice none 0 0, .slice A2 63 c2] W fun e w' => e = .returned (.bool false) ∧ Below W.heap.size W w') := hid fun A c A2 c2 W hG h h' => by
    have := SgHolds_len A PB c none [] 0 A2 (List.replicate 63 0) c2 W hG h Sq.nil h' (by decide)
    rw [LPB.out] at this
    exact this
  rw [← ePB] at KP HPB
  clear hG hl ePB
  go_enter Tryz.func5, Tryz.ntmps5
  have S0 : Hid (St w w [] []) := hid (St.start w)
  go_upto_region 0 with fail
  refine wpLA_start ?_
  refine wpLA_take (.bool false) (yG_val _ (by rfl) (fun w' _ => by (go_simp; try rfl))) ?_
  (try simp only [Act.put, List.getElem_toArray, List.getElem_cons_succ, List.getElem_cons_zero, List.setIfInBounds_toArray, List.set_cons_zero, List.set_cons_succ])
  refine wpLA_end ?_
  intro w1 hb
  have S1 := hid (S0.out.on hb)
  clear hb S0
  go_upto_region 1 with fail
  refine wpLA_start ?_
  refine wpLA_make 32 (by rfl) _ _ _ rfl rfl rfl Tryz.underlying22 infoU8 (by decide) ?_
  intro p2 w2 hb hs
  have S2 : Hid (St w w2 [] [((some ⟨p2, 0, none⟩), 32, bvs (List.replicate 32 0))]) := hid ((S1.out.on hb).more hs)
  clear hb hs S1
  (try simp only [Act.put, List.getElem_toArray, List.getElem_cons_succ, List.getElem_cons_zero, List.setIfInBounds_toArray, List.set_cons_zero, List.set_cons_succ])
  refine wpLA_sgS (xs := PB) (n := 32) LPB.out (by decide) (by rfl) (fun w' => by go_simp) (fun w' hb => KP.out _ _ w' (HG.out.below (S2.out.on hb).below (Nat.le_refl _)) (S2.out.on hb).sq.1) ?_
  intro b3 o3 c3 w3 hb hs
  have S3 : Hid (St w w3 [] [((some ⟨b3, o3, none⟩), c3, bvs (PB)), ((some ⟨p2, 0, none⟩), 32, bvs (List.replicate 32 0))]) := hid ((S2.out.on hb).more hs)
  clear hb hs S2
  (try simp only [Act.put, List.getElem_toArray, List.getElem_cons_succ, List.getElem_cons_zero, List.setIfInBounds_toArray, List.set_cons_zero, List.set_cons_succ])
  refine wpLA_take (.tuple #[(.slice (some ⟨b3, o3, none⟩) 32 c3), (.int .u8 0)]) (yG_val _ (by rfl) (fun w' _ => by (go_simp; try rfl))) ?_
  (try simp only [Act.put, List.getElem_toArray, List.getElem_cons_succ, List.getElem_cons_zero, List.setIfInBounds_toArray, List.set_cons_zero, List.set_cons_succ])
  refine wpLA_take (.slice (some ⟨b3, o3, none⟩) 32 c3) (yG_val _ (by rfl) (fun w' _ => by (go_simp; try rfl))) ?_
  (try simp only [Act.put, List.getElem_toArray, List.getElem_cons_succ, List.getElem_cons_zero, List.setIfInBounds_toArray, List.set_cons_zero, List.set_cons_succ])
  refine wpLA_take (.int .u8 0) (yG_val _ (by rfl) (fun w' _ => by (go_simp; try rfl))) ?_
  (try simp only [Act.put, List.getElem_toArray, List.getElem_cons_succ, List.getElem_cons_zero, List.setIfInBounds_toArray, List.set_cons_zero, List.set_cons_succ])
  refine wpLA_take (.slice (some ⟨b3, o3, none⟩) 32 c3) (yG_val _ (by rfl) (fun w' _ => by (go_simp; try rfl))) ?_
  (try simp only [Act.put, List.getElem_toArray, List.getElem_cons_succ, List.getElem_cons_zero, List.setIfInBounds_toArray, List.set_cons_zero, List.set_cons_succ])
  refine wpLA_take (.int .u8 0) (yG_val _ (by rfl) (fun w' _ => by (go_simp; try rfl))) ?_
  (try simp only [Act.put, List.getElem_toArray, List.getElem_cons_succ, List.getElem_cons_zero, List.setIfInBounds_toArray, List.set_cons_zero, List.set_cons_succ])
  refine wpLA_end ?_
  intro w4 hb
  have S4 := hid (S3.out.on hb)
  clear hb S3
  go_upto_region 2 with fail
  refine wpLA_start ?_
  refine wpLA_take (.int .u8 0) (yG_val _ (by rfl) (fun w' _ => by (go_simp; try rfl))) ?_
  (try simp only [Act.put, List.getElem_toArray, List.getElem_cons_succ, List.getElem_cons_zero, List.setIfInBounds_toArray, List.set_cons_zero, List.set_cons_succ])
  refine wpLA_take (.int .i64 0) (yG_val _ (by rfl) (fun w' _ => by (go_simp; try rfl))) ?_
  (try simp only [Act.put, List.getElem_toArray, List.getElem_cons_succ, List.getElem_cons_zero, List.setIfInBounds_toArray, List.set_cons_zero, List.set_cons_succ])
  refine wpLA_take (.bool true) (yG_val _ (by rfl) (fun w' _ => by (go_simp; try rfl))) ?_
  (try simp only [Act.put, List.getElem_toArray, List.getElem_cons_succ, List.getElem_cons_zero, List.setIfInBounds_toArray, List.set_cons_zero, List.set_cons_succ])
  refine wpLA_take (.bool true) (yG_val _ (by rfl) (fun w' _ => by (go_simp; try rfl))) ?_
  (try simp only [Act.put, List.getElem_toArray, List.getElem_cons_succ, List.getElem_cons_zero, List.setIfInBounds_toArray, List.set_cons_zero, List.set_cons_succ])
  refine wpLA_take (.slice (some ⟨b3, o3, none⟩) 32 c3) (yG_val _ (by rfl) (fun w' _ => by (go_simp; try rfl))) ?_
  (try simp only [Act.put, List.getElem_toArray, List.getElem_cons_succ, List.getElem_cons_zero, List.setIfInBounds_toArray, List.set_cons_zero, List.set_cons_succ])
  refine wpLA_take (.int .i64 32) (yG_val _ (by rfl) (fun w' _ => by (go_simp; try rfl))) ?_
  (try simp only [Act.put, List.getElem_toArray, List.getElem_cons_succ, List.getElem_cons_zero, List.setIfInBounds_toArray, List.set_cons_zero, List.set_cons_succ])
  refine wpLA_take (.bool true) (yG_val _ (by rfl) (fun w' _ => by (go_simp; try rfl))) ?_
  (try simp only [Act.put, List.getElem_toArray, List.getElem_cons_succ, List.getElem_cons_zero, List.setIfInBounds_toArray, List.set_cons_zero, List.set_cons_succ])
  refine wpLA_take (.bool true) (yG_val _ (by rfl) (fun w' _ => by (go_simp; try rfl))) ?_
  (try simp only [Act.put, List.getElem_toArray, List.getElem_cons_succ, List.getElem_cons_zero, List.setIfInBounds_toArray, List.set_cons_zero, List.set_cons_succ])
  refine wpLA_take (.bool true) (yG_val _ (by rfl) (fun w' _ => by (go_simp; try rfl))) ?_
  (try simp only [Act.put, List.getElem_toArray, List.getElem_cons_succ, List.getElem_cons_zero, List.setIfInBounds_toArray, List.set_cons_zero, List.set_cons_succ])
  refine wpLA_take (.slice (some ⟨b3, o3, none⟩) 32 c3) (yG_val _ (by rfl) (fun w' _ => by (go_simp; try rfl))) ?_
  (try simp only [Act.put, List.getElem_toArray, List.getElem_cons_succ, List.getElem_cons_zero, List.setIfInBounds_toArray, List.set_cons_zero, List.set_cons_succ])
  refine wpLA_take (.pointer (some ⟨b3, o3, none⟩)) (yG_val _ (by rfl) (fun w' _ => by (go_simp; try rfl))) ?_
  (try simp only [Act.put, List.getElem_toArray, List.getElem_cons_succ, List.getElem_cons_zero, List.setIfInBounds_toArray, List.set_cons_zero, List.set_cons_succ])
  refine wpLA_take (.int .u8 59) (yG_val _ (by rfl) (fun w' hb => by (have hc := sq_byte (S4.out.on hb).sq.1 (HPB.out 0 59 rfl); rw [Nat.add_zero] at hc; go_simp; try rfl))) ?_
  (try simp only [Act.put, List.getElem_toArray, List.getElem_cons_succ, List.getElem_cons_zero, List.setIfInBounds_toArray, List.set_cons_zero, List.set_cons_succ])
  refine wpLA_take (.bool true) (yG_val _ (by rfl) (fun w' _ => by (go_simp; try rfl))) ?_
  (try simp only [Act.put, List.getElem_toArray, List.getElem_cons_succ, List.getElem_cons_zero, List.setIfInBounds_toArray, List.set_cons_zero, List.set_cons_succ])
  refine wpLA_take (.bool true) (yG_val _ (by rfl) (fun w' _ => by (go_simp; try rfl))) ?_
  (try simp only [Act.put, List.getElem_toArray, List.getElem_cons_succ, List.getElem_cons_zero, List.setIfInBounds_toArray, List.set_cons_zero, List.set_cons_succ])
  refine wpLA_take (.bool true) (yG_val _ (by rfl) (fun w' _ => by (go_simp; try rfl))) ?_
  (try simp only [Act.put, List.getElem_toArray, List.getElem_cons_succ, List.getElem_cons_zero, List.setIfInBounds_toArray, List.set_cons_zero, List.set_cons_succ])
  refine wpLA_take (.slice (some ⟨b3, o3, none⟩) 32 c3) (yG_val _ (by rfl) (fun w' _ => by (go_simp; try rfl))) ?_
  (try simp only [Act.put, List.getElem_toArray, List.getElem_cons_succ, List.getElem_cons_zero, List.setIfInBounds_toArray, List.set_cons_zero, List.set_cons_succ])
  refine wpLA_take (.pointer (some ⟨b3, o3 + 1, none⟩)) (yG_val _ (by rfl) (fun w' _ => by (go_simp; try rfl))) ?_
  (try simp only [Act.put, List.getElem_toArray, List.getElem_cons_succ, List.getElem_cons_zero, List.setIfInBounds_toArray, List.set_cons_zero, List.set_cons_succ])
  refine wpLA_take (.int .u8 106) (yG_val _ (by rfl) (fun w' hb => by (have hc := sq_byte (S4.out.on hb).sq.1 (HPB.out 1 106 rfl); go_simp; try rfl))) ?_
  (try simp only [Act.put, List.getElem_toArray, List.getElem_cons_succ, List.getElem_cons_zero, List.setIfInBounds_toArray, List.set_cons_zero, List.set_cons_succ])
  refine wpLA_take (.bool true) (yG_val _ (by rfl) (fun w' _ => by (go_simp; try rfl))) ?_
  (try simp only [Act.put, List.getElem_toArray, List.getElem_cons_succ, List.getElem_cons_zero, List.setIfInBounds_toArray, List.set_cons_zero, List.set_cons_succ])
  refine wpLA_take (.bool true) (yG_val _ (by rfl) (fun w' _ => by (go_simp; try rfl))) ?_
  (try simp only [Act.put, List.getElem_toArray, List.getElem_cons_succ, List.getElem_cons_zero, List.setIfInBounds_toArray, List.set_cons_zero, List.set_cons_succ])
  refine wpLA_take (.bool true) (yG_val _ (by rfl) (fun w' _ => by (go_simp; try rfl))) ?_
  (try simp only [Act.put, List.getElem_toArray, List.getElem_cons_succ, List.getElem_cons_zero, List.setIfInBounds_toArray, List.set_cons_zero, List.set_cons_succ])
  refine wpLA_take (.slice (some ⟨b3, o3, none⟩) 32 c3) (yG_val _ (by rfl) (fun w' _ => by (go_simp; try rfl))) ?_
  (try simp only [Act.put, List.getElem_toArray, List.getElem_cons_succ, List.getElem_cons_zero, List.setIfInBounds_toArray, List.set_cons_zero, List.set_cons_succ])
  refine wpLA_take (.pointer (some ⟨b3, o3 + 2, none⟩)) (yG_val _ (by rfl) (fun w' _ => by (go_simp; try rfl))) ?_
  (try simp only [Act.put, List.getElem_toArray, List.getElem_cons_succ, List.getElem_cons_zero, List.setIfInBounds_toArray, List.set_cons_zero, List.set_cons_succ])
  refine wpLA_take (.int .u8 39) (yG_val _ (by rfl) (fun w' hb => by (have hc := sq_byte (S4.out.on hb).sq.1 (HPB.out 2 39 rfl); go_simp; try rfl))) ?_
  (try simp only [Act.put, List.getElem_toArray, List.getElem_cons_succ, List.getElem_cons_zero, List.setIfInBounds_toArray, List.set_cons_zero, List.set_cons_succ])
  refine wpLA_take (.bool true) (yG_val _ (by rfl) (fun w' _ => by (go_simp; try rfl))) ?_
  (try simp only [Act.put, List.getElem_toArray, List.getElem_cons_succ, List.getElem_cons_zero, List.setIfInBounds_toArray, List.set_cons_zero, List.set_cons_succ])
  refine wpLA_take (.bool true) (yG_val _ (by rfl) (fun w' _ => by (go_simp; try rfl))) ?_
  (try simp only [Act.put, List.getElem_toArray, List.getElem_cons_succ, List.getElem_cons_zero, List.setIfInBounds_toArray, List.set_cons_zero, List.set_cons_succ])
  refine wpLA_take (.bool true) (yG_val _ (by rfl) (fun w' _ => by (go_simp; try rfl))) ?_
  (try simp only [Act.put, List.getElem_toArray, List.getElem_cons_succ, List.getElem_cons_zero, List.setIfInBounds_toArray, List.set_cons_zero, List.set_cons_succ])
  refine wpLA_take (.slice (some ⟨b3, o3, none⟩) 32 c3) (yG_val _ (by rfl) (fun w' _ => by (go_simp; try rfl))) ?_
  (try simp only [Act.put, List.getElem_toArray, List.getElem_cons_succ, List.getElem_cons_zero, List.setIfInBounds_toArray, List.set_cons_zero, List.set_cons_succ])
  refine wpLA_take (.pointer (some ⟨b3, o3 + 3, none⟩)) (yG_val _ (by rfl) (fun w' _ => by (go_simp; try rfl))) ?_
  (try simp only [Act.put, List.getElem_toArray, List.getElem_cons_succ, List.getElem_cons_zero, List.setIfInBounds_toArray, List.set_cons_zero, List.set_cons_succ])
  refine wpLA_take (.int .u8 188) (yG_val _ (by rfl) (fun w' hb => by (have hc := sq_byte (S4.out.on hb).sq.1 (HPB.out 3 188 rfl); go_simp; try rfl))) ?_
  (try simp only [Act.put, List.getElem_toArray, List.getElem_cons_succ, List.getElem_cons_zero, List.setIfInBounds_toArray, List.set_cons_zero, List.set_cons_succ])
  refine wpLA_take (.bool true) (yG_val _ (by rfl) (fun w' _ => by (go_simp; try rfl))) ?_
  (try simp only [Act.put, List.getElem_toArray, List.getElem_cons_succ, List.getElem_cons_zero, List.setIfInBounds_toArray, List.set_cons_zero, List.set_cons_succ])
  refine wpLA_take (.bool true) (yG_val _ (by rfl) (fun w' _ => by (go_simp; try rfl))) ?_
  (try simp only [Act.put, List.getElem_toArray, List.getElem_cons_succ, List.getElem_cons_zero, List.setIfInBounds_toArray, List.set_cons_zero, List.set_cons_succ])
  refine wpLA_take (.bool true) (yG_val _ (by rfl) (fun w' _ => by (go_simp; try rfl))) ?_
  (try simp only [Act.put, List.getElem_toArray, List.getElem_cons_succ, List.getElem_cons_zero, List.setIfInBounds_toArray, List.set_cons_zero, List.set_cons_succ])
  refine wpLA_take (.slice (some ⟨b3, o3, none⟩) 32 c3) (yG_val _ (by rfl) (fun w' _ => by (go_simp; try rfl))) ?_
  (try simp only [Act.put, List.getElem_toArray, List.getElem_cons_succ, List.getElem_cons_zero, List.setIfInBounds_toArray, List.set_cons_zero, List.set_cons_succ])
  refine wpLA_make 63 (by rfl) _ _ _ rfl rfl rfl Tryz.underlying22 infoU8 (by decide) ?_
  intro p5 w5 hb hs
  have S5 : Hid (St w w5 [] [((some ⟨p5, 0, none⟩), 63, bvs (List.replicate 63 0)), ((some ⟨b3, o3, none⟩), c3, bvs (PB)), ((some ⟨p2, 0, none⟩), 32, bvs (List.replicate 32 0))]) := hid ((S4.out.on hb).more hs)
  clear hb hs S4
  (try simp only [Act.put, List.getElem_toArray, List.getElem_cons_succ, List.getElem_cons_zero, List.setIfInBounds_toArray, List.set_cons_zero, List.set_cons_succ])
  refine wpLA_take (.bool false) (yG_call (by rfl) (fun w' => by go_simp) (fun w' hb => KH.out _ _ _ _ w' (HG.out.below (S5.out.on hb).below (Nat.le_refl _)) (S5.out.on hb).sq.2.1 (S5.out.on hb).sq.1)) ?_
  (try simp only [Act.put, List.getElem_toArray, List.getElem_cons_succ, List.getElem_cons_zero, List.setIfInBounds_toArray, List.set_cons_zero, List.set_cons_succ])
  refine wpLA_take (.bool true) (yG_val _ (by rfl) (fun w' _ => by (go_simp; try rfl))) ?_
  (try simp only [Act.put, List.getElem_toArray, List.getElem_cons_succ, List.getElem_cons_zero, List.setIfInBounds_toArray, List.set_cons_zero, List.set_cons_succ])
  refine wpLA_take (.bool true) (yG_val _ (by rfl) (fun w' _ => by (go_simp; try rfl))) ?_
  (try simp only [Act.put, List.getElem_toArray, List.getElem_cons_succ, List.getElem_cons_zero, List.setIfInBounds_toArray, List.set_cons_zero, List.set_cons_succ])
  refine wpLA_take (.bool true) (yG_val _ (by rfl) (fun w' _ => by (go_simp; try rfl))) ?_
  (try simp only [Act.put, List.getElem_toArray, List.getElem_cons_succ, List.getElem_cons_zero, List.setIfInBounds_toArray, List.set_cons_zero, List.set_cons_succ])
  refine wpLA_end ?_
  intro w6 hb
  have S6 := hid (S5.out.on hb)
  clear hb S5
  go_wp2_with fail
  go_ret
  exact ⟨rfl, S6.out.below⟩
end Go.Proofs.YtheamlhhfkaknaaGreatDoor
end
section
namespace Go.Proofs.YtheamlhhfkaknaaGreatDoor
open Go Go.RowKit
set_option linter.unusedVariables false
set_option linter.unusedSimpArgs false
theorem builtS0 : Tryz.prog.built ST [] = some (sF 0) := by rw [← zS_sF]; exact builtS
theorem dg_small {n : Nat} (h : n < ordL) : (dg n).length ≤ 1073741824 := by
  have h1 : n < 32768 ^ 17 := Nat.lt_trans h (by decide +kernel)
  have := (dg_length_le n 17).2 h1
  omega
theorem same10 (A : Option Addr) (xs : List UInt8) (c n : Nat) (A' : Option Addr) (ys : List UInt8) (c' m : Nat) (W : World) (hS : Sq W W.heap.size A c (bvs xs)) (hS' : Sq W W.heap.size A' c' (bvs ys)) (hn : xs.length = n) (hm : ys.length = m) (hl : n ≤ 1000) (he : xs = ys) :
    Calls Tryz.prog 21 #[.slice A n c, .slice A' m c'] W fun e w' => e = .returned (.bool true) ∧ Below W.heap.size W w' := by
  subst hn; subst hm; subst he
  have h := calls_drew (Same_any A xs c A' xs c' W _ _ hS.lie hS'.lie (by omega))
  rw [show (xs == xs) = true by simp] at h
  exact h
set_option maxRecDepth 100000 in
set_option maxHeartbeats 4000000 in
theorem makes_none (A : Option Addr) (xs : List UInt8) (c : Nat) (A' : Option Addr) (ys : List UInt8) (c' : Nat) (w : World) (hG : GlobL w) (hS : Sq w w.heap.size A c (bvs xs)) (hS' : Sq w w.heap.size A' c' (bvs ys)) (hx : xs.length ≤ 60) (hy : ys.length ≤ 200) (h32 : xs.length ≠ 32) :
    Calls Tryz.prog 3 #[.slice A xs.length c, .slice A' ys.length c'] w fun e w' => e = .returned (.bool true) ∧ Below w.heap.size w w' := by
  have HS := hid hS; have HS' := hid hS'; have HG := hid hG
  have KP : Hid (∀ (A : Option Addr) (c : Nat) (W : World), GlobL W → Sq W W.heap.size A c (bvs xs) → Calls Tryz.prog 6 #[.slice A xs.length c] W (SgR W none)) := hid fun A c W hG h => by
    have := SgPublic A xs c W hG h (by omega)
    unfold pubO at this; rw [if_neg h32] at this; exact this
  have KS : Hid (∀ (A : Option Addr) (c : Nat) (A' : Option Addr) (c' : Nat) (W : World), GlobL W → Sq W W.heap.size A c (bvs xs) → Sq W W.heap.size A' c' (bvs ys) → Calls Tryz.prog 7 #[.slice A xs.length c, .slice A' ys.length c'] W (SgR W none)) := hid fun A c A' c' W hG h h' => by
    have := SgSign A xs c A' ys c' W hG h h' (by omega) (by omega)
    unfold sigO at this; rw [if_neg h32] at this; exact this
  have KC : Hid (∀ (A : Option Addr) (c : Nat) (W : World), GlobL W → Sq W W.heap.size A c (bvs xs) → Calls Tryz.prog 8 #[.slice A xs.length c] W fun e w' => e = .returned (.agg (sF 0)) ∧ Below W.heap.size W w') := hid fun A c W hG h => by
    have := SgSecret A xs c W hG h (by omega)
    unfold secO at this; rw [if_neg h32] at this; exact this
  have KZ : Hid (∀ W, Calls Tryz.prog 9 #[.agg (sF 0), .agg (sF 0)] W fun e w' => e = .returned (.bool true) ∧ Below W.heap.size W w') := hid fun W => by
    have := Same_s 0 0 W (by decide +kernel) (by decide +kernel)
    rw [decide_eq_true rfl] at this
    exact this
  have HX := hid (show ¬ (60 : Int) < (xs.length : Int) by omega)
  have HX32 := hid (show ¬ (xs.length : Int) = 32 by omega)
  have HY := hid (show ¬ (200 : Int) < (ys.length : Int) by omega)
  clear hG hS hS' hx hy h32
  go_enter Tryz.func3, Tryz.ntmps3
  have S0 : Hid (St w w [] []) := hid (St.start w)
  go_upto_region 0 with fail
  refine wpLA_start ?_
  refine wpLA_take (.bool false) (yG_val _ (by rfl) (fun w' _ => by (go_simp; try rfl))) ?_
  (try simp only [Act.put, List.getElem_toArray, List.getElem_cons_succ, List.getElem_cons_zero, List.setIfInBounds_toArray, List.set_cons_zero, List.set_cons_succ])
  refine wpLA_end ?_
  intro w1 hb
  have S1 := hid (S0.out.on hb)
  clear hb S0
  go_upto_region 1 with fail
  refine wpLA_start ?_
  refine wpLA_take (.bool true) (yG_call (by rfl) (fun w' => by go_simp) (fun w' hb => alive10_any w' (HG.out.below (S1.out.on hb).below (Nat.le_refl _)))) ?_
  (try simp only [Act.put, List.getElem_toArray, List.getElem_cons_succ, List.getElem_cons_zero, List.setIfInBounds_toArray, List.set_cons_zero, List.set_cons_succ])
  refine wpLA_take (.bool false) (yG_val _ (by rfl) (fun w' _ => by (go_simp; try rfl))) ?_
  (try simp only [Act.put, List.getElem_toArray, List.getElem_cons_succ, List.getElem_cons_zero, List.setIfInBounds_toArray, List.set_cons_zero, List.set_cons_succ])
  refine wpLA_end ?_
  intro w2 hb
  have S2 := hid (S1.out.on hb)
  clear hb S1
  go_upto_region 3 with fail
  refine wpLA_start ?_
  refine wpLA_take (.slice A (xs.length) c) (yG_val _ (by rfl) (fun w' _ => by (go_simp; try rfl))) ?_
  (try simp only [Act.put, List.getElem_toArray, List.getElem_cons_succ, List.getElem_cons_zero, List.setIfInBounds_toArray, List.set_cons_zero, List.set_cons_succ])
  refine wpLA_take (.int .i64 ((xs.length : Nat))) (yG_val _ (by rfl) (fun w' _ => by (go_simp; try rfl))) ?_
  (try simp only [Act.put, List.getElem_toArray, List.getElem_cons_succ, List.getElem_cons_zero, List.setIfInBounds_toArray, List.set_cons_zero, List.set_cons_succ])
  refine wpLA_take (.bool false) (yG_val _ (by rfl) (fun w' _ => by (have h := HX.out; go_simp; try omega))) ?_
  (try simp only [Act.put, List.getElem_toArray, List.getElem_cons_succ, List.getElem_cons_zero, List.setIfInBounds_toArray, List.set_cons_zero, List.set_cons_succ])
  refine wpLA_take (.bool false) (yG_val _ (by rfl) (fun w' _ => by (go_simp; try rfl))) ?_
  (try simp only [Act.put, List.getElem_toArray, List.getElem_cons_succ, List.getElem_cons_zero, List.setIfInBounds_toArray, List.set_cons_zero, List.set_cons_succ])
  refine wpLA_take (.slice A' (ys.length) c') (yG_val _ (by rfl) (fun w' _ => by (go_simp; try rfl))) ?_
  (try simp only [Act.put, List.getElem_toArray, List.getElem_cons_succ, List.getElem_cons_zero, List.setIfInBounds_toArray, List.set_cons_zero, List.set_cons_succ])
  refine wpLA_take (.int .i64 ((ys.length : Nat))) (yG_val _ (by rfl) (fun w' _ => by (go_simp; try rfl))) ?_
  (try simp only [Act.put, List.getElem_toArray, List.getElem_cons_succ, List.getElem_cons_zero, List.setIfInBounds_toArray, List.set_cons_zero, List.set_cons_succ])
  refine wpLA_take (.bool false) (yG_val _ (by rfl) (fun w' _ => by (have h := HY.out; go_simp; try omega))) ?_
  (try simp only [Act.put, List.getElem_toArray, List.getElem_cons_succ, List.getElem_cons_zero, List.setIfInBounds_toArray, List.set_cons_zero, List.set_cons_succ])
  refine wpLA_take (.bool false) (yG_val _ (by rfl) (fun w' _ => by (go_simp; try rfl))) ?_
  (try simp only [Act.put, List.getElem_toArray, List.getElem_cons_succ, List.getElem_cons_zero, List.setIfInBounds_toArray, List.set_cons_zero, List.set_cons_succ])
  refine wpLA_end ?_
  intro w3 hb
  have S3 := hid (S2.out.on hb)
  clear hb S2
  go_upto_region 5 with fail
  refine wpLA_start ?_
  refine wpLA_take (.slice A (xs.length) c) (yG_val _ (by rfl) (fun w' _ => by (go_simp; try rfl))) ?_
  (try simp only [Act.put, List.getElem_toArray, List.getElem_cons_succ, List.getElem_cons_zero, List.setIfInBounds_toArray, List.set_cons_zero, List.set_cons_succ])
  refine wpLA_sgN (by rfl) (fun w' => by go_simp) (fun w' hb => KP.out _ _ w' (HG.out.below (S3.out.on hb).below (Nat.le_refl _)) (HS.out.on6 ((S3.out.on hb).below))) ?_
  intro A4 c4 w4 hb
  have S4 : Hid (St w w4 [] []) := hid (S3.out.on hb)
  clear hb S3
  (try simp only [Act.put, List.getElem_toArray, List.getElem_cons_succ, List.getElem_cons_zero, List.setIfInBounds_toArray, List.set_cons_zero, List.set_cons_succ])
  refine wpLA_take (.tuple #[(.slice A4 0 c4), (.int .u8 1)]) (yG_val _ (by rfl) (fun w' _ => by (go_simp; try rfl))) ?_
  (try simp only [Act.put, List.getElem_toArray, List.getElem_cons_succ, List.getElem_cons_zero, List.setIfInBounds_toArray, List.set_cons_zero, List.set_cons_succ])
  refine wpLA_take (.slice A4 0 c4) (yG_val _ (by rfl) (fun w' _ => by (go_simp; try rfl))) ?_
  (try simp only [Act.put, List.getElem_toArray, List.getElem_cons_succ, List.getElem_cons_zero, List.setIfInBounds_toArray, List.set_cons_zero, List.set_cons_succ])
  refine wpLA_take (.int .u8 1) (yG_val _ (by rfl) (fun w' _ => by (go_simp; try rfl))) ?_
  (try simp only [Act.put, List.getElem_toArray, List.getElem_cons_succ, List.getElem_cons_zero, List.setIfInBounds_toArray, List.set_cons_zero, List.set_cons_succ])
  refine wpLA_take (.slice A4 0 c4) (yG_val _ (by rfl) (fun w' _ => by (go_simp; try rfl))) ?_
  (try simp only [Act.put, List.getElem_toArray, List.getElem_cons_succ, List.getElem_cons_zero, List.setIfInBounds_toArray, List.set_cons_zero, List.set_cons_succ])
  refine wpLA_take (.int .u8 1) (yG_val _ (by rfl) (fun w' _ => by (go_simp; try rfl))) ?_
  (try simp only [Act.put, List.getElem_toArray, List.getElem_cons_succ, List.getElem_cons_zero, List.setIfInBounds_toArray, List.set_cons_zero, List.set_cons_succ])
  refine wpLA_end ?_
  intro w5 hb
  have S5 := hid (S4.out.on hb)
  clear hb S4
  go_upto_region 6 with fail
  refine wpLA_start ?_
  refine wpLA_take (.slice A (xs.length) c) (yG_val _ (by rfl) (fun w' _ => by (go_simp; try rfl))) ?_
  (try simp only [Act.put, List.getElem_toArray, List.getElem_cons_succ, List.getElem_cons_zero, List.setIfInBounds_toArray, List.set_cons_zero, List.set_cons_succ])
  refine wpLA_take (.slice A' (ys.length) c') (yG_val _ (by rfl) (fun w' _ => by (go_simp; try rfl))) ?_
  (try simp only [Act.put, List.getElem_toArray, List.getElem_cons_succ, List.getElem_cons_zero, List.setIfInBounds_toArray, List.set_cons_zero, List.set_cons_succ])
  refine wpLA_sgN (by rfl) (fun w' => by go_simp) (fun w' hb => KS.out _ _ _ _ w' (HG.out.below (S5.out.on hb).below (Nat.le_refl _)) (HS.out.on6 ((S5.out.on hb).below)) (HS'.out.on6 ((S5.out.on hb).below))) ?_
  intro A6 c6 w6 hb
  have S6 : Hid (St w w6 [] []) := hid (S5.out.on hb)
  clear hb S5
  (try simp only [Act.put, List.getElem_toArray, List.getElem_cons_succ, List.getElem_cons_zero, List.setIfInBounds_toArray, List.set_cons_zero, List.set_cons_succ])
  refine wpLA_take (.tuple #[(.slice A6 0 c6), (.int .u8 1)]) (yG_val _ (by rfl) (fun w' _ => by (go_simp; try rfl))) ?_
  (try simp only [Act.put, List.getElem_toArray, List.getElem_cons_succ, List.getElem_cons_zero, List.setIfInBounds_toArray, List.set_cons_zero, List.set_cons_succ])
  refine wpLA_take (.slice A6 0 c6) (yG_val _ (by rfl) (fun w' _ => by (go_simp; try rfl))) ?_
  (try simp only [Act.put, List.getElem_toArray, List.getElem_cons_succ, List.getElem_cons_zero, List.setIfInBounds_toArray, List.set_cons_zero, List.set_cons_succ])
  refine wpLA_take (.int .u8 1) (yG_val _ (by rfl) (fun w' _ => by (go_simp; try rfl))) ?_
  (try simp only [Act.put, List.getElem_toArray, List.getElem_cons_succ, List.getElem_cons_zero, List.setIfInBounds_toArray, List.set_cons_zero, List.set_cons_succ])
  refine wpLA_take (.slice A6 0 c6) (yG_val _ (by rfl) (fun w' _ => by (go_simp; try rfl))) ?_
  (try simp only [Act.put, List.getElem_toArray, List.getElem_cons_succ, List.getElem_cons_zero, List.setIfInBounds_toArray, List.set_cons_zero, List.set_cons_succ])
  refine wpLA_take (.int .u8 1) (yG_val _ (by rfl) (fun w' _ => by (go_simp; try rfl))) ?_
  (try simp only [Act.put, List.getElem_toArray, List.getElem_cons_succ, List.getElem_cons_zero, List.setIfInBounds_toArray, List.set_cons_zero, List.set_cons_succ])
  refine wpLA_end ?_
  intro w7 hb
  have S7 := hid (S6.out.on hb)
  clear hb S6
  go_upto_region 7 with fail
  refine wpLA_start ?_
  refine wpLA_take (.slice A (xs.length) c) (yG_val _ (by rfl) (fun w' _ => by (go_simp; try rfl))) ?_
  (try simp only [Act.put, List.getElem_toArray, List.getElem_cons_succ, List.getElem_cons_zero, List.setIfInBounds_toArray, List.set_cons_zero, List.set_cons_succ])
  refine wpLA_take (.int .i64 ((xs.length : Nat))) (yG_val _ (by rfl) (fun w' _ => by (go_simp; try rfl))) ?_
  (try simp only [Act.put, List.getElem_toArray, List.getElem_cons_succ, List.getElem_cons_zero, List.setIfInBounds_toArray, List.set_cons_zero, List.set_cons_succ])
  refine wpLA_take (.bool true) (yG_val _ (by rfl) (fun w' _ => by (have h := HX32.out; go_simp; try omega))) ?_
  (try simp only [Act.put, List.getElem_toArray, List.getElem_cons_succ, List.getElem_cons_zero, List.setIfInBounds_toArray, List.set_cons_zero, List.set_cons_succ])
  refine wpLA_end ?_
  intro w8 hb
  have S8 := hid (S7.out.on hb)
  clear hb S7
  go_upto_region 8 with fail
  refine wpLA_start ?_
  refine wpLA_take (.int .u8 1) (yG_val _ (by rfl) (fun w' _ => by (go_simp; try rfl))) ?_
  (try simp only [Act.put, List.getElem_toArray, List.getElem_cons_succ, List.getElem_cons_zero, List.setIfInBounds_toArray, List.set_cons_zero, List.set_cons_succ])
  refine wpLA_take (.int .i64 1) (yG_val _ (by rfl) (fun w' _ => by (go_simp; try rfl))) ?_
  (try simp only [Act.put, List.getElem_toArray, List.getElem_cons_succ, List.getElem_cons_zero, List.setIfInBounds_toArray, List.set_cons_zero, List.set_cons_succ])
  refine wpLA_take (.bool true) (yG_val _ (by rfl) (fun w' _ => by (go_simp; try rfl))) ?_
  (try simp only [Act.put, List.getElem_toArray, List.getElem_cons_succ, List.getElem_cons_zero, List.setIfInBounds_toArray, List.set_cons_zero, List.set_cons_succ])
  refine wpLA_take (.bool true) (yG_val _ (by rfl) (fun w' _ => by (go_simp; try rfl))) ?_
  (try simp only [Act.put, List.getElem_toArray, List.getElem_cons_succ, List.getElem_cons_zero, List.setIfInBounds_toArray, List.set_cons_zero, List.set_cons_succ])
  refine wpLA_take (.int .u8 1) (yG_val _ (by rfl) (fun w' _ => by (go_simp; try rfl))) ?_
  (try simp only [Act.put, List.getElem_toArray, List.getElem_cons_succ, List.getElem_cons_zero, List.setIfInBounds_toArray, List.set_cons_zero, List.set_cons_succ])
  refine wpLA_take (.int .i64 1) (yG_val _ (by rfl) (fun w' _ => by (go_simp; try rfl))) ?_
  (try simp only [Act.put, List.getElem_toArray, List.getElem_cons_succ, List.getElem_cons_zero, List.setIfInBounds_toArray, List.set_cons_zero, List.set_cons_succ])
  refine wpLA_take (.bool true) (yG_val _ (by rfl) (fun w' _ => by (go_simp; try rfl))) ?_
  (try simp only [Act.put, List.getElem_toArray, List.getElem_cons_succ, List.getElem_cons_zero, List.setIfInBounds_toArray, List.set_cons_zero, List.set_cons_succ])
  refine wpLA_take (.bool true) (yG_val _ (by rfl) (fun w' _ => by (go_simp; try rfl))) ?_
  (try simp only [Act.put, List.getElem_toArray, List.getElem_cons_succ, List.getElem_cons_zero, List.setIfInBounds_toArray, List.set_cons_zero, List.set_cons_succ])
  refine wpLA_take (.bool true) (yG_val _ (by rfl) (fun w' _ => by (go_simp; try rfl))) ?_
  (try simp only [Act.put, List.getElem_toArray, List.getElem_cons_succ, List.getElem_cons_zero, List.setIfInBounds_toArray, List.set_cons_zero, List.set_cons_succ])
  refine wpLA_take (.slice A4 0 c4) (yG_val _ (by rfl) (fun w' _ => by (go_simp; try rfl))) ?_
  (try simp only [Act.put, List.getElem_toArray, List.getElem_cons_succ, List.getElem_cons_zero, List.setIfInBounds_toArray, List.set_cons_zero, List.set_cons_succ])
  refine wpLA_take (.int .i64 0) (yG_val _ (by rfl) (fun w' _ => by (go_simp; try rfl))) ?_
  (try simp only [Act.put, List.getElem_toArray, List.getElem_cons_succ, List.getElem_cons_zero, List.setIfInBounds_toArray, List.set_cons_zero, List.set_cons_succ])
  refine wpLA_take (.slice A6 0 c6) (yG_val _ (by rfl) (fun w' _ => by (go_simp; try rfl))) ?_
  (try simp only [Act.put, List.getElem_toArray, List.getElem_cons_succ, List.getElem_cons_zero, List.setIfInBounds_toArray, List.set_cons_zero, List.set_cons_succ])
  refine wpLA_take (.int .i64 0) (yG_val _ (by rfl) (fun w' _ => by (go_simp; try rfl))) ?_
  (try simp only [Act.put, List.getElem_toArray, List.getElem_cons_succ, List.getElem_cons_zero, List.setIfInBounds_toArray, List.set_cons_zero, List.set_cons_succ])
  refine wpLA_take (.int .i64 0) (yG_val _ (by rfl) (fun w' _ => by (go_simp; try rfl))) ?_
  (try simp only [Act.put, List.getElem_toArray, List.getElem_cons_succ, List.getElem_cons_zero, List.setIfInBounds_toArray, List.set_cons_zero, List.set_cons_succ])
  refine wpLA_take (.bool true) (yG_val _ (by rfl) (fun w' _ => by (go_simp; try rfl))) ?_
  (try simp only [Act.put, List.getElem_toArray, List.getElem_cons_succ, List.getElem_cons_zero, List.setIfInBounds_toArray, List.set_cons_zero, List.set_cons_succ])
  refine wpLA_take (.bool true) (yG_val _ (by rfl) (fun w' _ => by (go_simp; try rfl))) ?_
  (try simp only [Act.put, List.getElem_toArray, List.getElem_cons_succ, List.getElem_cons_zero, List.setIfInBounds_toArray, List.set_cons_zero, List.set_cons_succ])
  refine wpLA_take (.bool true) (yG_val _ (by rfl) (fun w' _ => by (go_simp; try rfl))) ?_
  (try simp only [Act.put, List.getElem_toArray, List.getElem_cons_succ, List.getElem_cons_zero, List.setIfInBounds_toArray, List.set_cons_zero, List.set_cons_succ])
  refine wpLA_take (.slice A (xs.length) c) (yG_val _ (by rfl) (fun w' _ => by (go_simp; try rfl))) ?_
  (try simp only [Act.put, List.getElem_toArray, List.getElem_cons_succ, List.getElem_cons_zero, List.setIfInBounds_toArray, List.set_cons_zero, List.set_cons_succ])
  refine wpLA_take (.agg (sF 0)) (yG_call (by rfl) (fun w' => by go_simp) (fun w' hb => KC.out _ _ w' (HG.out.below (S8.out.on hb).below (Nat.le_refl _)) (HS.out.on6 ((S8.out.on hb).below)))) ?_
  (try simp only [Act.put, List.getElem_toArray, List.getElem_cons_succ, List.getElem_cons_zero, List.setIfInBounds_toArray, List.set_cons_zero, List.set_cons_succ])
  refine wpLA_take (.agg (sF 0)) (yG_build (by rfl) ST _ rfl [] rfl _ builtS0) ?_
  (try simp only [Act.put, List.getElem_toArray, List.getElem_cons_succ, List.getElem_cons_zero, List.setIfInBounds_toArray, List.set_cons_zero, List.set_cons_succ])
  refine wpLA_take (.bool true) (yG_call (by rfl) (fun w' => by go_simp) (fun w' hb => KZ.out w')) ?_
  (try simp only [Act.put, List.getElem_toArray, List.getElem_cons_succ, List.getElem_cons_zero, List.setIfInBounds_toArray, List.set_cons_zero, List.set_cons_succ])
  refine wpLA_take (.bool true) (yG_val _ (by rfl) (fun w' _ => by (go_simp; try rfl))) ?_
  (try simp only [Act.put, List.getElem_toArray, List.getElem_cons_succ, List.getElem_cons_zero, List.setIfInBounds_toArray, List.set_cons_zero, List.set_cons_succ])
  refine wpLA_take (.bool true) (yG_val _ (by rfl) (fun w' _ => by (go_simp; try rfl))) ?_
  (try simp only [Act.put, List.getElem_toArray, List.getElem_cons_succ, List.getElem_cons_zero, List.setIfInBounds_toArray, List.set_cons_zero, List.set_cons_succ])
  refine wpLA_end ?_
  intro w9 hb
  have S9 := hid (S8.out.on hb)
  clear hb S8
  go_wp2_with fail
  go_ret
  exact ⟨rfl, S9.out.below⟩
set_option maxRecDepth 100000 in
set_option maxHeartbeats 4000000 in
theorem makes_some (A : Option Addr) (xs : List UInt8) (c : Nat) (A' : Option Addr) (ys : List UInt8) (c' : Nat) (w : World) (hG : GlobL w) (hS : Sq w w.heap.size A c (bvs xs)) (hS' : Sq w w.heap.size A' c' (bvs ys)) (hy : ys.length ≤ 200) (h32 : xs.length = 32) :
    Calls Tryz.prog 3 #[.slice A 32 c, .slice A' ys.length c'] w fun e w' => e = .returned (.bool true) ∧ Below w.heap.size w w' := by
  have HS := hid hS; have HS' := hid hS'; have HG := hid hG
  have KP : Hid (∀ (A : Option Addr) (c : Nat) (W : World), GlobL W → Sq W W.heap.size A c (bvs xs) → Calls Tryz.prog 6 #[.slice A 32 c] W (SgR W (some (pubB xs)))) := hid fun A c W hG h => by
    have := SgPublic A xs c W hG h (by omega)
    unfold pubO at this; rw [if_pos h32, h32] at this; exact this
  have KS : Hid (∀ (A : Option Addr) (c : Nat) (A' : Option Addr) (c' : Nat) (W : World), GlobL W → Sq W W.heap.size A c (bvs xs) → Sq W W.heap.size A' c' (bvs ys) → Calls Tryz.prog 7 #[.slice A 32 c, .slice A' ys.length c'] W (SgR W (some (sigB xs ys)))) := hid fun A c A' c' W hG h h' => by
    have := SgSign A xs c A' ys c' W hG h h' (by omega) (by omega)
    unfold sigO at this; rw [if_pos h32, h32] at this; exact this
  have KC : Hid (∀ (A : Option Addr) (c : Nat) (W : World), GlobL W → Sq W W.heap.size A c (bvs xs) → Calls Tryz.prog 8 #[.slice A 32 c] W fun e w' => e = .returned (.agg (sF (secS xs))) ∧ Below W.heap.size W w') := hid fun A c W hG h => by
    have := SgSecret A xs c W hG h (by omega)
    unfold secO at this; rw [if_pos h32, h32] at this; exact this
  obtain ⟨D, hD⟩ : ∃ D, D = longB xs := ⟨_, rfl⟩
  have hDl : D.length = 64 := by rw [hD]; exact longB_64 xs
  obtain ⟨N0, hN0⟩ : ∃ N, N = leN (clampS D) := ⟨_, rfl⟩
  obtain ⟨P32, hP32⟩ : ∃ l, l = D.drop 32 := ⟨_, rfl⟩
  have LP32 : Hid (P32.length = 32) := hid (by rw [hP32, List.length_drop, hDl])
  have K0 : Hid (∀ (A : Option Addr) (c : Nat) (W : World), Sq W W.heap.size A c (bvs xs) → Calls Tryz.prog 11 #[.slice A 32 c] W (BigR W N0)) := hid fun A c W h => by
    have := Secret10_any A xs c W h (by omega)
    rw [h32, ← hD, ← hN0] at this; exact this
  have KX : Hid (∀ (A : Option Addr) (c : Nat) (W : World), Sq W W.heap.size A c (bvs xs) → Calls Tryz.prog 13 #[.slice A 32 c] W fun e w' => ∃ A' c', e = .returned (.slice A' 32 c') ∧ Sq w' w'.heap.size A' c' (bvs P32) ∧ Below W.heap.size W w') := hid fun A c W h => by
    have := Prefix10_any A xs c W h (by omega)
    rw [h32, ← hD, ← hP32] at this; exact this
  obtain ⟨s1, hs1⟩ : ∃ s, s = secS xs := ⟨_, rfl⟩
  obtain ⟨s2, hs2⟩ : ∃ s, s = rS xs ys := ⟨_, rfl⟩
  obtain ⟨n1, hn1⟩ : ∃ n, n = s1.val := ⟨_, rfl⟩
  obtain ⟨n2, hn2⟩ : ∃ n, n = s2.val := ⟨_, rfl⟩
  have hcl : (clampS D).length = 32 := clampS_length hDl
  have hN0l : N0 < 32768 ^ 600 := by
    have := leN_lt (clampS D)
    rw [hcl, ← hN0] at this
    exact Nat.lt_trans this (by decide +kernel)
  have hN01 : N0 % ordL = n1 := by
    rw [hn1, hs1, hN0, hD]
    show leN (clampS (longB xs)) % ordL = leN ((clampS (longB xs)).take 64) % ordL
    rw [List.take_of_length_le (by rw [clampS_length (longB_64 xs)]; decide)]
  have KM0 : Hid (∀ (A : Option Addr) (c : Nat) (W : World), Sq W W.heap.size A c (ivs (dg N0)) → Calls Tryz.prog 10 #[.slice A (dg N0).length c] W (BigR W n1)) := hid fun A c W h => by
    have := Mod8_any N0 A c W h hN0l
    rw [hN01] at this; exact this
  have KD0 : Hid (∀ (A : Option Addr) (c : Nat) (A' : Option Addr) (c' : Nat) (W : World), Sq W W.heap.size A c (bvs P32) → Sq W W.heap.size A' c' (bvs ys) → Calls Tryz.prog 12 #[.slice A 32 c, .slice A' ys.length c', .slice none 0 0] W (BigR W n2)) := hid fun A c A' c' W h h' => by
    have := Digest10_any A P32 c A' ys c' none [] 0 W h h' Sq.nil (by rw [LP32.out]; simp only [List.length_nil]; omega)
    rw [LP32.out, List.nil_append, List.append_nil, hP32, hD] at this
    rw [hn2, hs2]; exact this
  obtain ⟨g, hg, KG⟩ := CvBase
  have HB_ := hid hg
  obtain ⟨g1, hg1, KU1⟩ := CvMul hg s1
  obtain ⟨g2, hg2, KU2⟩ := CvMul hg s2
  have KV1 := CvBytes hg1
  have KV2 := CvBytes hg2
  have hp1 : pB (Pt.times s1.val Gb) = pubB xs := by rw [hs1]; rfl
  have hp2 : pB (Pt.times s2.val Gb) = pB (ptR xs ys) := by rw [hs2]; rfl
  rw [hp1] at KV1
  rw [hp2] at KV2
  obtain ⟨PB, hPB⟩ : ∃ l, l = pubB xs := ⟨_, rfl⟩
  obtain ⟨RB, hRB⟩ : ∃ l, l = pB (ptR xs ys) := ⟨_, rfl⟩
  obtain ⟨SB, hSB⟩ : ∃ l, l = sigB xs ys := ⟨_, rfl⟩
  have LPB : Hid (PB.length = 32) := hid (by rw [hPB]; exact pubB_length _)
  have LRB : Hid (RB.length = 32) := hid (by rw [hRB]; exact pB_length _)
  have LSB : Hid (SB.length = 64) := hid (by rw [hSB]; exact sigB_length _ _)
  obtain ⟨n3, hn3⟩ : ∃ n, n = (kS RB PB ys).val := ⟨_, rfl⟩
  obtain ⟨n6, hn6⟩ : ∃ n, n = (sumS xs ys).val := ⟨_, rfl⟩
  have hn6m : (n2 + n3 * n1) % ordL = n6 := by
    rw [hn6, hn2, hn3, hn1, hs2, hs1]
    unfold sumS
    rw [← hRB, ← hPB, Fin.val_add, Fin.val_mul, Nat.add_mod_mod]
    rfl
  have hSBe : SB = RB ++ leB 32 n6 := by rw [hSB, hRB, hn6]; rfl
  have KD1 : Hid (∀ (A : Option Addr) (c : Nat) (A' : Option Addr) (c' : Nat) (A'' : Option Addr) (c'' : Nat) (W : World), Sq W W.heap.size A c (bvs RB) → Sq W W.heap.size A' c' (bvs PB) → Sq W W.heap.size A'' c'' (bvs ys) → Calls Tryz.prog 12 #[.slice A RB.length c, .slice A' PB.length c', .slice A'' ys.length c''] W (BigR W n3)) := hid fun A c A' c' A'' c'' W h h' h'' => by
    have := Digest10_any A RB c A' PB c' A'' ys c'' W h h' h'' (by rw [LRB.out, LPB.out]; omega)
    rw [List.nil_append] at this
    rw [hn3]; exact this
  have l1 : n1 < ordL := by rw [hn1]; exact SF_lt s1
  have l2 : n2 < ordL := by rw [hn2]; exact SF_lt s2
  have l3 : n3 < ordL := by rw [hn3]; exact SF_lt _
  have l6 : n6 < ordL := by rw [hn6]; exact SF_lt _
  have l4 : n3 * n1 < 32768 ^ 40 := Nat.lt_trans (Nat.mul_lt_mul'' l3 l1) (by decide +kernel)
  have KB : ∀ n, n < ordL → Hid (∀ (A : Option Addr) (c : Nat) (W : World), Sq W W.heap.size A c (ivs (dg n)) → Calls Tryz.prog 17 #[.slice A (dg n).length c, .int .i64 32] W fun e w' => ∃ v, e = .returned v ∧ OwnB w' W.heap.size v (leB 32 n) ∧ Below W.heap.size W w') := fun n hn => hid fun A c W h => Bytes6_any n 32 A c W h (Nat.lt_trans hn (by decide +kernel)) (by decide)
  have KB1 := KB n1 l1; have KB2 := KB n2 l2; have KB6 := KB n6 l6
  have KO : ∀ (s : SF) (n : Nat), n = s.val → Hid (∀ (A : Option Addr) (c : Nat) (W : World), Sq W W.heap.size A c (bvs (leB 32 n)) → Calls Tryz.prog 16 #[.slice A (leB 32 n).length c] W fun e w' => e = .returned (.agg (sF s)) ∧ Below W.heap.size W w') := fun s n hn => by
    have := scOf (leB 32 n) (by rw [leB_length]; decide)
    rw [hn, ofS_bytes] at this
    rw [hn]; exact this
  have KO1 := KO s1 n1 hn1; have KO2 := KO s2 n2 hn2
  have KSB : Hid (∀ W : World, Calls Tryz.prog 22 #[.agg (sF s1)] W fun e w' => ∃ v, e = .returned v ∧ OwnB w' W.heap.size v (leB 32 n1) ∧ Below W.heap.size W w') := hid fun W => by
    rw [hn1]; exact Bytes_s s1.val W (Nat.lt_trans (SF_lt s1) (by decide +kernel))
  obtain ⟨n4, hn4⟩ : ∃ n, n = n3 * n1 := ⟨_, rfl⟩
  obtain ⟨n5, hn5⟩ : ∃ n, n = n2 + n4 := ⟨_, rfl⟩
  have d4 : (dg n4).length ≤ 1073741824 := by
    have := (dg_length_le n4 40).2 (by rw [hn4]; exact l4)
    omega
  have KMU : Hid (∀ (A : Option Addr) (c : Nat) (A' : Option Addr) (c' : Nat) (W : World), Sq W W.heap.size A c (ivs (dg n3)) → Sq W W.heap.size A' c' (ivs (dg n1)) → Calls Tryz.prog 20 #[.slice A (dg n3).length c, .slice A' (dg n1).length c'] W (BigR W n4)) := hid fun A c A' c' W h h' => by
    rw [hn4]; exact Mul_any n3 n1 A A' c c' W h h' (dg_small l3) (dg_small l1)
  have KAD : Hid (∀ (A : Option Addr) (c : Nat) (A' : Option Addr) (c' : Nat) (W : World), Sq W W.heap.size A c (ivs (dg n2)) → Sq W W.heap.size A' c' (ivs (dg n4)) → Calls Tryz.prog 19 #[.slice A (dg n2).length c, .slice A' (dg n4).length c'] W (BigR W n5)) := hid fun A c A' c' W h h' => by
    rw [hn5]; exact Add_any n2 n4 A A' c c' W h h' (dg_small l2) d4
  have KM1 : Hid (∀ (A : Option Addr) (c : Nat) (W : World), Sq W W.heap.size A c (ivs (dg n5)) → Calls Tryz.prog 10 #[.slice A (dg n5).length c] W (BigR W n6)) := hid fun A c W h => by
    have := Mod8_any n5 A c W h (by rw [hn5, hn4]; exact Nat.lt_of_lt_of_le (Nat.add_lt_add (Nat.lt_trans l2 (by decide +kernel : ordL < 32768 ^ 40)) l4) (by decide +kernel))
    rw [hn5, hn4, hn6m, ← hn4, ← hn5] at this; exact this
  obtain ⟨X0, hX0⟩ : ∃ l_ : List UInt8, l_ = ([] : List UInt8) ++ RB := ⟨_, rfl⟩
  have EX0 := hid hX0
  have LX0 : Hid (X0.length ≤ 10000) := hid (by rw [hX0]; rw [List.length_append, LRB.out]; decide)
  obtain ⟨X1, hX1⟩ : ∃ l_ : List UInt8, l_ = X0 ++ leB 32 n6 := ⟨_, rfl⟩
  have EX1 := hid hX1
  have LX1 : Hid (X1.length ≤ 10000) := hid (by rw [hX1]; rw [EX0.out, List.length_append, List.length_append, LRB.out, leB_length]; decide)
  have KE0 : Hid (∀ (A : Option Addr) (c : Nat) (A' : Option Addr) (c' : Nat) (W : World), Sq W W.heap.size A c (bvs (leB 32 n1)) → Sq W W.heap.size A' c' (bvs (leB 32 n1)) → Calls Tryz.prog 21 #[.slice A (leB 32 n1).length c, .slice A' (leB 32 n1).length c'] W fun e w' => e = .returned (.bool true) ∧ Below W.heap.size W w') := hid fun A c A' c' W h h' => same10 A _ c _ A' _ c' _ W h h' rfl rfl (by rw [leB_length]; decide) rfl
  have KE1 : Hid (∀ (A : Option Addr) (c : Nat) (A' : Option Addr) (c' : Nat) (W : World), Sq W W.heap.size A c (bvs PB) → Sq W W.heap.size A' c' (bvs PB) → Calls Tryz.prog 21 #[.slice A 32 c, .slice A' PB.length c'] W fun e w' => e = .returned (.bool true) ∧ Below W.heap.size W w') := hid fun A c A' c' W h h' => same10 A _ c _ A' _ c' _ W h h' LPB.out rfl (by decide) rfl
  have KE2 : Hid (∀ (A : Option Addr) (c : Nat) (A' : Option Addr) (c' : Nat) (W : World), Sq W W.heap.size A c (bvs SB) → Sq W W.heap.size A' c' (bvs X1) → Calls Tryz.prog 21 #[.slice A 64 c, .slice A' X1.length c'] W fun e w' => e = .returned (.bool true) ∧ Below W.heap.size W w') := hid fun A c A' c' W h h' => same10 A _ c _ A' _ c' _ W h h' LSB.out rfl (by decide) (by rw [hSBe, hX1, hX0, List.nil_append])
  rw [← hPB] at KP KV1
  rw [← hRB] at KV2
  rw [← hSB] at KS
  rw [← hs1] at KC
  have HY := hid (show ¬ (200 : Int) < (ys.length : Int) by omega)
  clear hG hS hS' hy h32 hD hDl hN0 hP32 hs1 hs2 hn1 hn2 hcl hN0l hN01 hg hg1 hg2 hp1 hp2 hPB hRB hSB hn3 hn6 hn6m hSBe l1 l2 l3 l6 l4 KB KO hn4 hn5 d4 hX0 hX1
  go_enter Tryz.func3, Tryz.ntmps3
  have S0 : Hid (St w w [] []) := hid (St.start w)
  go_upto_region 0 with fail
  refine wpLA_start ?_
  refine wpLA_take (.bool false) (yG_val _ (by rfl) (fun w' _ => by (go_simp; try rfl))) ?_
  (try simp only [Act.put, List.getElem_toArray, List.getElem_cons_succ, List.getElem_cons_zero, List.setIfInBounds_toArray, List.set_cons_zero, List.set_cons_succ])
  refine wpLA_end ?_
  intro w1 hb
  have S1 := hid (S0.out.on hb)
  clear hb S0
  go_upto_region 1 with fail
  refine wpLA_start ?_
  refine wpLA_take (.bool true) (yG_call (by rfl) (fun w' => by go_simp) (fun w' hb => alive10_any w' (HG.out.below (S1.out.on hb).below (Nat.le_refl _)))) ?_
  (try simp only [Act.put, List.getElem_toArray, List.getElem_cons_succ, List.getElem_cons_zero, List.setIfInBounds_toArray, List.set_cons_zero, List.set_cons_succ])
  refine wpLA_take (.bool false) (yG_val _ (by rfl) (fun w' _ => by (go_simp; try rfl))) ?_
  (try simp only [Act.put, List.getElem_toArray, List.getElem_cons_succ, List.getElem_cons_zero, List.setIfInBounds_toArray, List.set_cons_zero, List.set_cons_succ])
  refine wpLA_end ?_
  intro w2 hb
  have S2 := hid (S1.out.on hb)
  clear hb S1
  go_upto_region 3 with fail
  refine wpLA_start ?_
  refine wpLA_take (.slice A 32 c) (yG_val _ (by rfl) (fun w' _ => by (go_simp; try rfl))) ?_
  (try simp only [Act.put, List.getElem_toArray, List.getElem_cons_succ, List.getElem_cons_zero, List.setIfInBounds_toArray, List.set_cons_zero, List.set_cons_succ])
  refine wpLA_take (.int .i64 32) (yG_val _ (by rfl) (fun w' _ => by (go_simp; try rfl))) ?_
  (try simp only [Act.put, List.getElem_toArray, List.getElem_cons_succ, List.getElem_cons_zero, List.setIfInBounds_toArray, List.set_cons_zero, List.set_cons_succ])
  refine wpLA_take (.bool false) (yG_val _ (by rfl) (fun w' _ => by (go_simp; try rfl))) ?_
  (try simp only [Act.put, List.getElem_toArray, List.getElem_cons_succ, List.getElem_cons_zero, List.setIfInBounds_toArray, List.set_cons_zero, List.set_cons_succ])
  refine wpLA_take (.bool false) (yG_val _ (by rfl) (fun w' _ => by (go_simp; try rfl))) ?_
  (try simp only [Act.put, List.getElem_toArray, List.getElem_cons_succ, List.getElem_cons_zero, List.setIfInBounds_toArray, List.set_cons_zero, List.set_cons_succ])
  refine wpLA_take (.slice A' (ys.length) c') (yG_val _ (by rfl) (fun w' _ => by (go_simp; try rfl))) ?_
  (try simp only [Act.put, List.getElem_toArray, List.getElem_cons_succ, List.getElem_cons_zero, List.setIfInBounds_toArray, List.set_cons_zero, List.set_cons_succ])
  refine wpLA_take (.int .i64 ((ys.length : Nat))) (yG_val _ (by rfl) (fun w' _ => by (go_simp; try rfl))) ?_
  (try simp only [Act.put, List.getElem_toArray, List.getElem_cons_succ, List.getElem_cons_zero, List.setIfInBounds_toArray, List.set_cons_zero, List.set_cons_succ])
  refine wpLA_take (.bool false) (yG_val _ (by rfl) (fun w' _ => by (have h := HY.out; go_simp; try omega))) ?_
  (try simp only [Act.put, List.getElem_toArray, List.getElem_cons_succ, List.getElem_cons_zero, List.setIfInBounds_toArray, List.set_cons_zero, List.set_cons_succ])
  refine wpLA_take (.bool false) (yG_val _ (by rfl) (fun w' _ => by (go_simp; try rfl))) ?_
  (try simp only [Act.put, List.getElem_toArray, List.getElem_cons_succ, List.getElem_cons_zero, List.setIfInBounds_toArray, List.set_cons_zero, List.set_cons_succ])
  refine wpLA_end ?_
  intro w3 hb
  have S3 := hid (S2.out.on hb)
  clear hb S2
  go_upto_region 5 with fail
  refine wpLA_start ?_
  refine wpLA_take (.slice A 32 c) (yG_val _ (by rfl) (fun w' _ => by (go_simp; try rfl))) ?_
  (try simp only [Act.put, List.getElem_toArray, List.getElem_cons_succ, List.getElem_cons_zero, List.setIfInBounds_toArray, List.set_cons_zero, List.set_cons_succ])
  refine wpLA_sgS (xs := PB) (n := 32) LPB.out (by decide) (by rfl) (fun w' => by go_simp) (fun w' hb => KP.out _ _ w' (HG.out.below (S3.out.on hb).below (Nat.le_refl _)) (HS.out.on6 ((S3.out.on hb).below))) ?_
  intro b4 o4 c4 w4 hb hs
  have S4 : Hid (St w w4 [] [((some ⟨b4, o4, none⟩), c4, bvs (PB))]) := hid ((S3.out.on hb).more hs)
  clear hb hs S3
  (try simp only [Act.put, List.getElem_toArray, List.getElem_cons_succ, List.getElem_cons_zero, List.setIfInBounds_toArray, List.set_cons_zero, List.set_cons_succ])
  refine wpLA_take (.tuple #[(.slice (some ⟨b4, o4, none⟩) 32 c4), (.int .u8 0)]) (yG_val _ (by rfl) (fun w' _ => by (go_simp; try rfl))) ?_
  (try simp only [Act.put, List.getElem_toArray, List.getElem_cons_succ, List.getElem_cons_zero, List.setIfInBounds_toArray, List.set_cons_zero, List.set_cons_succ])
  refine wpLA_take (.slice (some ⟨b4, o4, none⟩) 32 c4) (yG_val _ (by rfl) (fun w' _ => by (go_simp; try rfl))) ?_
  (try simp only [Act.put, List.getElem_toArray, List.getElem_cons_succ, List.getElem_cons_zero, List.setIfInBounds_toArray, List.set_cons_zero, List.set_cons_succ])
  refine wpLA_take (.int .u8 0) (yG_val _ (by rfl) (fun w' _ => by (go_simp; try rfl))) ?_
  (try simp only [Act.put, List.getElem_toArray, List.getElem_cons_succ, List.getElem_cons_zero, List.setIfInBounds_toArray, List.set_cons_zero, List.set_cons_succ])
  refine wpLA_take (.slice (some ⟨b4, o4, none⟩) 32 c4) (yG_val _ (by rfl) (fun w' _ => by (go_simp; try rfl))) ?_
  (try simp only [Act.put, List.getElem_toArray, List.getElem_cons_succ, List.getElem_cons_zero, List.setIfInBounds_toArray, List.set_cons_zero, List.set_cons_succ])
  refine wpLA_take (.int .u8 0) (yG_val _ (by rfl) (fun w' _ => by (go_simp; try rfl))) ?_
  (try simp only [Act.put, List.getElem_toArray, List.getElem_cons_succ, List.getElem_cons_zero, List.setIfInBounds_toArray, List.set_cons_zero, List.set_cons_succ])
  refine wpLA_end ?_
  intro w5 hb
  have S5 := hid (S4.out.on hb)
  clear hb S4
  go_upto_region 6 with fail
  refine wpLA_start ?_
  refine wpLA_take (.slice A 32 c) (yG_val _ (by rfl) (fun w' _ => by (go_simp; try rfl))) ?_
  (try simp only [Act.put, List.getElem_toArray, List.getElem_cons_succ, List.getElem_cons_zero, List.setIfInBounds_toArray, List.set_cons_zero, List.set_cons_succ])
  refine wpLA_take (.slice A' (ys.length) c') (yG_val _ (by rfl) (fun w' _ => by (go_simp; try rfl))) ?_
  (try simp only [Act.put, List.getElem_toArray, List.getElem_cons_succ, List.getElem_cons_zero, List.setIfInBounds_toArray, List.set_cons_zero, List.set_cons_succ])
  refine wpLA_sgS (xs := SB) (n := 64) LSB.out (by decide) (by rfl) (fun w' => by go_simp) (fun w' hb => KS.out _ _ _ _ w' (HG.out.below (S5.out.on hb).below (Nat.le_refl _)) (HS.out.on6 ((S5.out.on hb).below)) (HS'.out.on6 ((S5.out.on hb).below))) ?_
  intro b6 o6 c6 w6 hb hs
  have S6 : Hid (St w w6 [] [((some ⟨b6, o6, none⟩), c6, bvs (SB)), ((some ⟨b4, o4, none⟩), c4, bvs (PB))]) := hid ((S5.out.on hb).more hs)
  clear hb hs S5
  (try simp only [Act.put, List.getElem_toArray, List.getElem_cons_succ, List.getElem_cons_zero, List.setIfInBounds_toArray, List.set_cons_zero, List.set_cons_succ])
  refine wpLA_take (.tuple #[(.slice (some ⟨b6, o6, none⟩) 64 c6), (.int .u8 0)]) (yG_val _ (by rfl) (fun w' _ => by (go_simp; try rfl))) ?_
  (try simp only [Act.put, List.getElem_toArray, List.getElem_cons_succ, List.getElem_cons_zero, List.setIfInBounds_toArray, List.set_cons_zero, List.set_cons_succ])
  refine wpLA_take (.slice (some ⟨b6, o6, none⟩) 64 c6) (yG_val _ (by rfl) (fun w' _ => by (go_simp; try rfl))) ?_
  (try simp only [Act.put, List.getElem_toArray, List.getElem_cons_succ, List.getElem_cons_zero, List.setIfInBounds_toArray, List.set_cons_zero, List.set_cons_succ])
  refine wpLA_take (.int .u8 0) (yG_val _ (by rfl) (fun w' _ => by (go_simp; try rfl))) ?_
  (try simp only [Act.put, List.getElem_toArray, List.getElem_cons_succ, List.getElem_cons_zero, List.setIfInBounds_toArray, List.set_cons_zero, List.set_cons_succ])
  refine wpLA_take (.slice (some ⟨b6, o6, none⟩) 64 c6) (yG_val _ (by rfl) (fun w' _ => by (go_simp; try rfl))) ?_
  (try simp only [Act.put, List.getElem_toArray, List.getElem_cons_succ, List.getElem_cons_zero, List.setIfInBounds_toArray, List.set_cons_zero, List.set_cons_succ])
  refine wpLA_take (.int .u8 0) (yG_val _ (by rfl) (fun w' _ => by (go_simp; try rfl))) ?_
  (try simp only [Act.put, List.getElem_toArray, List.getElem_cons_succ, List.getElem_cons_zero, List.setIfInBounds_toArray, List.set_cons_zero, List.set_cons_succ])
  refine wpLA_end ?_
  intro w7 hb
  have S7 := hid (S6.out.on hb)
  clear hb S6
  go_upto_region 7 with fail
  refine wpLA_start ?_
  refine wpLA_take (.slice A 32 c) (yG_val _ (by rfl) (fun w' _ => by (go_simp; try rfl))) ?_
  (try simp only [Act.put, List.getElem_toArray, List.getElem_cons_succ, List.getElem_cons_zero, List.setIfInBounds_toArray, List.set_cons_zero, List.set_cons_succ])
  refine wpLA_take (.int .i64 32) (yG_val _ (by rfl) (fun w' _ => by (go_simp; try rfl))) ?_
  (try simp only [Act.put, List.getElem_toArray, List.getElem_cons_succ, List.getElem_cons_zero, List.setIfInBounds_toArray, List.set_cons_zero, List.set_cons_succ])
  refine wpLA_take (.bool false) (yG_val _ (by rfl) (fun w' _ => by (go_simp; try rfl))) ?_
  (try simp only [Act.put, List.getElem_toArray, List.getElem_cons_succ, List.getElem_cons_zero, List.setIfInBounds_toArray, List.set_cons_zero, List.set_cons_succ])
  refine wpLA_end ?_
  intro w8 hb
  have S8 := hid (S7.out.on hb)
  clear hb S7
  go_upto_region 9 with fail
  refine wpLA_start ?_
  refine wpLA_take (.slice A 32 c) (yG_val _ (by rfl) (fun w' _ => by (go_simp; try rfl))) ?_
  (try simp only [Act.put, List.getElem_toArray, List.getElem_cons_succ, List.getElem_cons_zero, List.setIfInBounds_toArray, List.set_cons_zero, List.set_cons_succ])
  refine wpLA_big (N0) (by rfl) (fun w' => by go_simp) (fun w' hb => K0.out _ _ w' (HS.out.on6 ((S8.out.on hb).below))) ?_
  intro A9 c9 w9 hb hs
  have S9 : Hid (St w w9 [] [(A9, c9, ivs (dg (N0))), ((some ⟨b6, o6, none⟩), c6, bvs (SB)), ((some ⟨b4, o4, none⟩), c4, bvs (PB))]) := hid ((S8.out.on hb).more hs)
  clear hb hs S8
  (try simp only [Act.put, List.getElem_toArray, List.getElem_cons_succ, List.getElem_cons_zero, List.setIfInBounds_toArray, List.set_cons_zero, List.set_cons_succ])
  refine wpLA_big (n1) (by rfl) (fun w' => by go_simp) (fun w' hb => KM0.out _ _ w' (S9.out.on hb).sq.1) ?_
  intro A10 c10 w10 hb hs
  have S10 : Hid (St w w10 [] [(A10, c10, ivs (dg (n1))), (A9, c9, ivs (dg (N0))), ((some ⟨b6, o6, none⟩), c6, bvs (SB)), ((some ⟨b4, o4, none⟩), c4, bvs (PB))]) := hid ((S9.out.on hb).more hs)
  clear hb hs S9
  (try simp only [Act.put, List.getElem_toArray, List.getElem_cons_succ, List.getElem_cons_zero, List.setIfInBounds_toArray, List.set_cons_zero, List.set_cons_succ])
  refine wpLA_take (.slice A10 ((dg (n1)).length) c10) (yG_val _ (by rfl) (fun w' _ => by (go_simp; try rfl))) ?_
  (try simp only [Act.put, List.getElem_toArray, List.getElem_cons_succ, List.getElem_cons_zero, List.setIfInBounds_toArray, List.set_cons_zero, List.set_cons_succ])
  refine wpLA_end ?_
  intro w11 hb
  have S11 := hid (S10.out.on hb)
  clear hb S10
  go_upto_region 10 with fail
  refine wpLA_start ?_
  refine wpLA_take (.slice A 32 c) (yG_val _ (by rfl) (fun w' _ => by (go_simp; try rfl))) ?_
  (try simp only [Act.put, List.getElem_toArray, List.getElem_cons_succ, List.getElem_cons_zero, List.setIfInBounds_toArray, List.set_cons_zero, List.set_cons_succ])
  refine wpLA_call (fun w' v w'' => ∃ A c, v = .slice A 32 c ∧ Sq w'' w''.heap.size A c (bvs P32) ∧ Below w'.heap.size w' w'') (by rfl) (fun w' => by go_simp) (fun w' hb => (KX.out _ _ w' (HS.out.on6 ((S11.out.on hb).below))).mono (fun e w'' ⟨A, c, he, h1, h2⟩ => ⟨_, he, A, c, rfl, h1, h2⟩)) ?_
  rintro wx v w12 hb ⟨A12, c12, rfl, hs, hk⟩
  have S12 : Hid (St w w12 [] [(A12, c12, bvs P32), (A10, c10, ivs (dg (n1))), (A9, c9, ivs (dg (N0))), ((some ⟨b6, o6, none⟩), c6, bvs (SB)), ((some ⟨b4, o4, none⟩), c4, bvs (PB))]) := hid (((S11.out.on hb).on hk).more hs)
  clear hb hs hk S11
  (try simp only [Act.put, List.getElem_toArray, List.getElem_cons_succ, List.getElem_cons_zero, List.setIfInBounds_toArray, List.set_cons_zero, List.set_cons_succ])
  refine wpLA_take (.slice A' (ys.length) c') (yG_val _ (by rfl) (fun w' _ => by (go_simp; try rfl))) ?_
  (try simp only [Act.put, List.getElem_toArray, List.getElem_cons_succ, List.getElem_cons_zero, List.setIfInBounds_toArray, List.set_cons_zero, List.set_cons_succ])
  refine wpLA_big (n2) (by rfl) (fun w' => by go_simp) (fun w' hb => KD0.out _ _ _ _ w' (S12.out.on hb).sq.1 (HS'.out.on6 ((S12.out.on hb).below))) ?_
  intro A13 c13 w13 hb hs
  have S13 : Hid (St w w13 [] [(A13, c13, ivs (dg (n2))), (A12, c12, bvs P32), (A10, c10, ivs (dg (n1))), (A9, c9, ivs (dg (N0))), ((some ⟨b6, o6, none⟩), c6, bvs (SB)), ((some ⟨b4, o4, none⟩), c4, bvs (PB))]) := hid ((S12.out.on hb).more hs)
  clear hb hs S12
  (try simp only [Act.put, List.getElem_toArray, List.getElem_cons_succ, List.getElem_cons_zero, List.setIfInBounds_toArray, List.set_cons_zero, List.set_cons_succ])
  refine wpLA_take (.slice A13 ((dg (n2)).length) c13) (yG_val _ (by rfl) (fun w' _ => by (go_simp; try rfl))) ?_
  (try simp only [Act.put, List.getElem_toArray, List.getElem_cons_succ, List.getElem_cons_zero, List.setIfInBounds_toArray, List.set_cons_zero, List.set_cons_succ])
  refine wpLA_end ?_
  intro w14 hb
  have S14 := hid (S13.out.on hb)
  clear hb S13
  go_upto_region 11 with fail
  refine wpLA_start ?_
  refine wpLA_take (.agg (g)) (yG_call (by rfl) (fun w' => by go_simp) (fun w' hb => KG.out w')) ?_
  (try simp only [Act.put, List.getElem_toArray, List.getElem_cons_succ, List.getElem_cons_zero, List.setIfInBounds_toArray, List.set_cons_zero, List.set_cons_succ])
  refine wpLA_alloc (by rfl) rfl zeroP ?_
  intro p15 w15 hp hz hb
  have N15 := hid (S14.out.sq.far hp)
  have S15 : Hid (St w w15 [(p15, zP, PT)] [(A13, c13, ivs (dg (n2))), (A12, c12, bvs P32), (A10, c10, ivs (dg (n1))), (A9, c9, ivs (dg (N0))), ((some ⟨b6, o6, none⟩), c6, bvs (SB)), ((some ⟨b4, o4, none⟩), c4, bvs (PB))]) := hid (S14.out.alloc hb hp hz)
  clear hp hz hb S14
  (try simp only [Act.put, List.getElem_toArray, List.getElem_cons_succ, List.getElem_cons_zero, List.setIfInBounds_toArray, List.set_cons_zero, List.set_cons_succ])
  refine wpLA_store rfl PT (.tmp 11) (.tmp 69) rfl p15 (g) rfl rfl PT (zP) S15.out.cl.1 HB_.out.info HB_.out.size HB_.out.one ?_
  intro wx hb
  have S16 : Hid (St w (wx.setRow p15 (g)) [(p15, g, PT)] [(A13, c13, ivs (dg (n2))), (A12, c12, bvs P32), (A10, c10, ivs (dg (n1))), (A9, c9, ivs (dg (N0))), ((some ⟨b6, o6, none⟩), c6, bvs (SB)), ((some ⟨b4, o4, none⟩), c4, bvs (PB))]) := hid ((S15.out.on hb).put 0 rfl N15.out)
  clear hb S15
  generalize wx.setRow p15 (g) = w16 at S16 ⊢
  (try simp only [Act.put, List.getElem_toArray, List.getElem_cons_succ, List.getElem_cons_zero, List.setIfInBounds_toArray, List.set_cons_zero, List.set_cons_succ])
  refine wpLA_end ?_
  intro w17 hb
  have S17 := hid (S16.out.on hb)
  clear hb S16
  go_upto_region 12 with fail
  refine wp_region_grA 6 (by kernel_rfl) (by decide) ?_
  refine wpGrA_take (i := 0) (.agg (g)) rfl (by kernel_rfl) (by kernel_rfl) (fun _ _ _ h => h) (yG_part (by rfl) PT (.tmp 11) rfl p15 0 rfl PT (g) (g) (0, 0) _ S17.out.cl.1 HB_.out.all Tryz.underlying42 rfl HB_.out.info) ?_
  (try simp only [Act.put, List.getElem_toArray, List.getElem_cons_succ, List.getElem_cons_zero, List.setIfInBounds_toArray, List.set_cons_zero, List.set_cons_succ])
  refine wpGrA_take (i := 1) (.slice A10 ((dg (n1)).length) c10) rfl (by kernel_rfl) (by kernel_rfl) (fun _ _ _ h => h) (yG_val _ (by rfl) (fun w' _ => by (go_simp; try rfl))) ?_
  (try simp only [Act.put, List.getElem_toArray, List.getElem_cons_succ, List.getElem_cons_zero, List.setIfInBounds_toArray, List.set_cons_zero, List.set_cons_succ])
  refine wpGrA_bytes (i := 2) (leB 32 n1) rfl (by kernel_rfl) (by rfl) (fun w' => by go_simp) (fun w' hb => KB1.out _ _ w' (S17.out.on hb).sq.2.2.1) ?_
  intro A18 c18 w18 hb hs
  have S18 : Hid (St w w18 [(p15, g, PT)] [(A18, c18, bvs (leB 32 n1)), (A13, c13, ivs (dg (n2))), (A12, c12, bvs P32), (A10, c10, ivs (dg (n1))), (A9, c9, ivs (dg (N0))), ((some ⟨b6, o6, none⟩), c6, bvs (SB)), ((some ⟨b4, o4, none⟩), c4, bvs (PB))]) := hid ((S17.out.on hb).more hs)
  clear hb hs S17
  (try simp only [Act.put, List.getElem_toArray, List.getElem_cons_succ, List.getElem_cons_zero, List.setIfInBounds_toArray, List.set_cons_zero, List.set_cons_succ])
  refine wpGrA_take (i := 3) (.agg (sF s1)) rfl (by kernel_rfl) (by kernel_rfl) (fun _ _ _ h => h) (yG_call (by rfl) (fun w' => by go_simp) (fun w' hb => KO1.out _ _ w' (S18.out.on hb).sq.1)) ?_
  (try simp only [Act.put, List.getElem_toArray, List.getElem_cons_succ, List.getElem_cons_zero, List.setIfInBounds_toArray, List.set_cons_zero, List.set_cons_succ])
  refine wpGrA_take (i := 4) (.agg (g1)) rfl (by kernel_rfl) (by kernel_rfl) (fun _ _ _ h => h) (yG_call (by rfl) (fun w' => by go_simp) (fun w' hb => KU1.out w')) ?_
  (try simp only [Act.put, List.getElem_toArray, List.getElem_cons_succ, List.getElem_cons_zero, List.setIfInBounds_toArray, List.set_cons_zero, List.set_cons_succ])
  refine wpGrA_bytes (i := 5) (PB) rfl (by kernel_rfl) (by rfl) (fun w' => by go_simp) (fun w' hb => KV1.out w') ?_
  intro A19 c19 w19 hb hs
  have S19 : Hid (St w w19 [(p15, g, PT)] [(A19, c19, bvs (PB)), (A18, c18, bvs (leB 32 n1)), (A13, c13, ivs (dg (n2))), (A12, c12, bvs P32), (A10, c10, ivs (dg (n1))), (A9, c9, ivs (dg (N0))), ((some ⟨b6, o6, none⟩), c6, bvs (SB)), ((some ⟨b4, o4, none⟩), c4, bvs (PB))]) := hid ((S18.out.on hb).more hs)
  clear hb hs S18
  (try simp only [Act.put, List.getElem_toArray, List.getElem_cons_succ, List.getElem_cons_zero, List.setIfInBounds_toArray, List.set_cons_zero, List.set_cons_succ])
  refine wpGrA_end (by kernel_rfl) ?_
  intro w20 hb
  have S20 := hid (S19.out.on hb)
  clear hb S19
  refine wpLA_here ?_
  refine wpLA_take (.slice A19 ((PB).length) c19) (yG_val _ (by rfl) (fun w' _ => by (go_simp; try rfl))) ?_
  (try simp only [Act.put, List.getElem_toArray, List.getElem_cons_succ, List.getElem_cons_zero, List.setIfInBounds_toArray, List.set_cons_zero, List.set_cons_succ])
  refine wpLA_end ?_
  intro w21 hb
  have S21 := hid (S20.out.on hb)
  clear hb S20
  go_upto_region 13 with fail
  refine wp_region_grA 6 (by kernel_rfl) (by decide) ?_
  refine wpGrA_take (i := 0) (.agg (g)) rfl (by kernel_rfl) (by kernel_rfl) (fun _ _ _ h => h) (yG_part (by rfl) PT (.tmp 11) rfl p15 0 rfl PT (g) (g) (0, 0) _ S21.out.cl.1 HB_.out.all Tryz.underlying42 rfl HB_.out.info) ?_
  (try simp only [Act.put, List.getElem_toArray, List.getElem_cons_succ, List.getElem_cons_zero, List.setIfInBounds_toArray, List.set_cons_zero, List.set_cons_succ])
  refine wpGrA_take (i := 1) (.slice A13 ((dg (n2)).length) c13) rfl (by kernel_rfl) (by kernel_rfl) (fun _ _ _ h => h) (yG_val _ (by rfl) (fun w' _ => by (go_simp; try rfl))) ?_
  (try simp only [Act.put, List.getElem_toArray, List.getElem_cons_succ, List.getElem_cons_zero, List.setIfInBounds_toArray, List.set_cons_zero, List.set_cons_succ])
  refine wpGrA_bytes (i := 2) (leB 32 n2) rfl (by kernel_rfl) (by rfl) (fun w' => by go_simp) (fun w' hb => KB2.out _ _ w' (S21.out.on hb).sq.2.2.1) ?_
  intro A22 c22 w22 hb hs
  have S22 : Hid (St w w22 [(p15, g, PT)] [(A22, c22, bvs (leB 32 n2)), (A19, c19, bvs (PB)), (A18, c18, bvs (leB 32 n1)), (A13, c13, ivs (dg (n2))), (A12, c12, bvs P32), (A10, c10, ivs (dg (n1))), (A9, c9, ivs (dg (N0))), ((some ⟨b6, o6, none⟩), c6, bvs (SB)), ((some ⟨b4, o4, none⟩), c4, bvs (PB))]) := hid ((S21.out.on hb).more hs)
  clear hb hs S21
  (try simp only [Act.put, List.getElem_toArray, List.getElem_cons_succ, List.getElem_cons_zero, List.setIfInBounds_toArray, List.set_cons_zero, List.set_cons_succ])
  refine wpGrA_take (i := 3) (.agg (sF s2)) rfl (by kernel_rfl) (by kernel_rfl) (fun _ _ _ h => h) (yG_call (by rfl) (fun w' => by go_simp) (fun w' hb => KO2.out _ _ w' (S22.out.on hb).sq.1)) ?_
  (try simp only [Act.put, List.getElem_toArray, List.getElem_cons_succ, List.getElem_cons_zero, List.setIfInBounds_toArray, List.set_cons_zero, List.set_cons_succ])
  refine wpGrA_take (i := 4) (.agg (g2)) rfl (by kernel_rfl) (by kernel_rfl) (fun _ _ _ h => h) (yG_call (by rfl) (fun w' => by go_simp) (fun w' hb => KU2.out w')) ?_
  (try simp only [Act.put, List.getElem_toArray, List.getElem_cons_succ, List.getElem_cons_zero, List.setIfInBounds_toArray, List.set_cons_zero, List.set_cons_succ])
  refine wpGrA_bytes (i := 5) (RB) rfl (by kernel_rfl) (by rfl) (fun w' => by go_simp) (fun w' hb => KV2.out w') ?_
  intro A23 c23 w23 hb hs
  have S23 : Hid (St w w23 [(p15, g, PT)] [(A23, c23, bvs (RB)), (A22, c22, bvs (leB 32 n2)), (A19, c19, bvs (PB)), (A18, c18, bvs (leB 32 n1)), (A13, c13, ivs (dg (n2))), (A12, c12, bvs P32), (A10, c10, ivs (dg (n1))), (A9, c9, ivs (dg (N0))), ((some ⟨b6, o6, none⟩), c6, bvs (SB)), ((some ⟨b4, o4, none⟩), c4, bvs (PB))]) := hid ((S22.out.on hb).more hs)
  clear hb hs S22
  (try simp only [Act.put, List.getElem_toArray, List.getElem_cons_succ, List.getElem_cons_zero, List.setIfInBounds_toArray, List.set_cons_zero, List.set_cons_succ])
  refine wpGrA_end (by kernel_rfl) ?_
  intro w24 hb
  have S24 := hid (S23.out.on hb)
  clear hb S23
  refine wpLA_here ?_
  refine wpLA_take (.slice A23 ((RB).length) c23) (yG_val _ (by rfl) (fun w' _ => by (go_simp; try rfl))) ?_
  (try simp only [Act.put, List.getElem_toArray, List.getElem_cons_succ, List.getElem_cons_zero, List.setIfInBounds_toArray, List.set_cons_zero, List.set_cons_succ])
  refine wpLA_end ?_
  intro w25 hb
  have S25 := hid (S24.out.on hb)
  clear hb S24
  go_upto_region 14 with fail
  refine wpLA_start ?_
  refine wpLA_take (.slice A23 ((RB).length) c23) (yG_val _ (by rfl) (fun w' _ => by (go_simp; try rfl))) ?_
  (try simp only [Act.put, List.getElem_toArray, List.getElem_cons_succ, List.getElem_cons_zero, List.setIfInBounds_toArray, List.set_cons_zero, List.set_cons_succ])
  refine wpLA_take (.slice A19 ((PB).length) c19) (yG_val _ (by rfl) (fun w' _ => by (go_simp; try rfl))) ?_
  (try simp only [Act.put, List.getElem_toArray, List.getElem_cons_succ, List.getElem_cons_zero, List.setIfInBounds_toArray, List.set_cons_zero, List.set_cons_succ])
  refine wpLA_take (.slice A' (ys.length) c') (yG_val _ (by rfl) (fun w' _ => by (go_simp; try rfl))) ?_
  (try simp only [Act.put, List.getElem_toArray, List.getElem_cons_succ, List.getElem_cons_zero, List.setIfInBounds_toArray, List.set_cons_zero, List.set_cons_succ])
  refine wpLA_big (n3) (by rfl) (fun w' => by go_simp) (fun w' hb => KD1.out _ _ _ _ _ _ w' (S25.out.on hb).sq.1 (S25.out.on hb).sq.2.2.1 (HS'.out.on6 ((S25.out.on hb).below))) ?_
  intro A26 c26 w26 hb hs
  have S26 : Hid (St w w26 [(p15, g, PT)] [(A26, c26, ivs (dg (n3))), (A23, c23, bvs (RB)), (A22, c22, bvs (leB 32 n2)), (A19, c19, bvs (PB)), (A18, c18, bvs (leB 32 n1)), (A13, c13, ivs (dg (n2))), (A12, c12, bvs P32), (A10, c10, ivs (dg (n1))), (A9, c9, ivs (dg (N0))), ((some ⟨b6, o6, none⟩), c6, bvs (SB)), ((some ⟨b4, o4, none⟩), c4, bvs (PB))]) := hid ((S25.out.on hb).more hs)
  clear hb hs S25
  (try simp only [Act.put, List.getElem_toArray, List.getElem_cons_succ, List.getElem_cons_zero, List.setIfInBounds_toArray, List.set_cons_zero, List.set_cons_succ])
  refine wpLA_take (.slice A26 ((dg (n3)).length) c26) (yG_val _ (by rfl) (fun w' _ => by (go_simp; try rfl))) ?_
  (try simp only [Act.put, List.getElem_toArray, List.getElem_cons_succ, List.getElem_cons_zero, List.setIfInBounds_toArray, List.set_cons_zero, List.set_cons_succ])
  refine wpLA_end ?_
  intro w27 hb
  have S27 := hid (S26.out.on hb)
  clear hb S26
  go_upto_region 15 with fail
  refine wpLA_start ?_
  refine wpLA_take (.slice A13 ((dg (n2)).length) c13) (yG_val _ (by rfl) (fun w' _ => by (go_simp; try rfl))) ?_
  (try simp only [Act.put, List.getElem_toArray, List.getElem_cons_succ, List.getElem_cons_zero, List.setIfInBounds_toArray, List.set_cons_zero, List.set_cons_succ])
  refine wpLA_take (.slice A26 ((dg (n3)).length) c26) (yG_val _ (by rfl) (fun w' _ => by (go_simp; try rfl))) ?_
  (try simp only [Act.put, List.getElem_toArray, List.getElem_cons_succ, List.getElem_cons_zero, List.setIfInBounds_toArray, List.set_cons_zero, List.set_cons_succ])
  refine wpLA_take (.slice A10 ((dg (n1)).length) c10) (yG_val _ (by rfl) (fun w' _ => by (go_simp; try rfl))) ?_
  (try simp only [Act.put, List.getElem_toArray, List.getElem_cons_succ, List.getElem_cons_zero, List.setIfInBounds_toArray, List.set_cons_zero, List.set_cons_succ])
  refine wpLA_big (n4) (by rfl) (fun w' => by go_simp) (fun w' hb => KMU.out _ _ _ _ w' (S27.out.on hb).sq.1 (S27.out.on hb).sq.2.2.2.2.2.2.2.1) ?_
  intro A28 c28 w28 hb hs
  have S28 : Hid (St w w28 [(p15, g, PT)] [(A28, c28, ivs (dg (n4))), (A26, c26, ivs (dg (n3))), (A23, c23, bvs (RB)), (A22, c22, bvs (leB 32 n2)), (A19, c19, bvs (PB)), (A18, c18, bvs (leB 32 n1)), (A13, c13, ivs (dg (n2))), (A12, c12, bvs P32), (A10, c10, ivs (dg (n1))), (A9, c9, ivs (dg (N0))), ((some ⟨b6, o6, none⟩), c6, bvs (SB)), ((some ⟨b4, o4, none⟩), c4, bvs (PB))]) := hid ((S27.out.on hb).more hs)
  clear hb hs S27
  (try simp only [Act.put, List.getElem_toArray, List.getElem_cons_succ, List.getElem_cons_zero, List.setIfInBounds_toArray, List.set_cons_zero, List.set_cons_succ])
  refine wpLA_big (n5) (by rfl) (fun w' => by go_simp) (fun w' hb => KAD.out _ _ _ _ w' (S28.out.on hb).sq.2.2.2.2.2.2.1 (S28.out.on hb).sq.1) ?_
  intro A29 c29 w29 hb hs
  have S29 : Hid (St w w29 [(p15, g, PT)] [(A29, c29, ivs (dg (n5))), (A28, c28, ivs (dg (n4))), (A26, c26, ivs (dg (n3))), (A23, c23, bvs (RB)), (A22, c22, bvs (leB 32 n2)), (A19, c19, bvs (PB)), (A18, c18, bvs (leB 32 n1)), (A13, c13, ivs (dg (n2))), (A12, c12, bvs P32), (A10, c10, ivs (dg (n1))), (A9, c9, ivs (dg (N0))), ((some ⟨b6, o6, none⟩), c6, bvs (SB)), ((some ⟨b4, o4, none⟩), c4, bvs (PB))]) := hid ((S28.out.on hb).more hs)
  clear hb hs S28
  (try simp only [Act.put, List.getElem_toArray, List.getElem_cons_succ, List.getElem_cons_zero, List.setIfInBounds_toArray, List.set_cons_zero, List.set_cons_succ])
  refine wpLA_big (n6) (by rfl) (fun w' => by go_simp) (fun w' hb => KM1.out _ _ w' (S29.out.on hb).sq.1) ?_
  intro A30 c30 w30 hb hs
  have S30 : Hid (St w w30 [(p15, g, PT)] [(A30, c30, ivs (dg (n6))), (A29, c29, ivs (dg (n5))), (A28, c28, ivs (dg (n4))), (A26, c26, ivs (dg (n3))), (A23, c23, bvs (RB)), (A22, c22, bvs (leB 32 n2)), (A19, c19, bvs (PB)), (A18, c18, bvs (leB 32 n1)), (A13, c13, ivs (dg (n2))), (A12, c12, bvs P32), (A10, c10, ivs (dg (n1))), (A9, c9, ivs (dg (N0))), ((some ⟨b6, o6, none⟩), c6, bvs (SB)), ((some ⟨b4, o4, none⟩), c4, bvs (PB))]) := hid ((S29.out.on hb).more hs)
  clear hb hs S29
  (try simp only [Act.put, List.getElem_toArray, List.getElem_cons_succ, List.getElem_cons_zero, List.setIfInBounds_toArray, List.set_cons_zero, List.set_cons_succ])
  refine wpLA_take (.slice A30 ((dg (n6)).length) c30) (yG_val _ (by rfl) (fun w' _ => by (go_simp; try rfl))) ?_
  (try simp only [Act.put, List.getElem_toArray, List.getElem_cons_succ, List.getElem_cons_zero, List.setIfInBounds_toArray, List.set_cons_zero, List.set_cons_succ])
  refine wpLA_end ?_
  intro w31 hb
  have S31 := hid (S30.out.on hb)
  clear hb S30
  go_upto_region 16 with fail
  refine wpLA_start ?_
  refine wpLA_take (.int .u8 0) (yG_val _ (by rfl) (fun w' _ => by (go_simp; try rfl))) ?_
  (try simp only [Act.put, List.getElem_toArray, List.getElem_cons_succ, List.getElem_cons_zero, List.setIfInBounds_toArray, List.set_cons_zero, List.set_cons_succ])
  refine wpLA_take (.int .i64 0) (yG_val _ (by rfl) (fun w' _ => by (go_simp; try rfl))) ?_
  (try simp only [Act.put, List.getElem_toArray, List.getElem_cons_succ, List.getElem_cons_zero, List.setIfInBounds_toArray, List.set_cons_zero, List.set_cons_succ])
  refine wpLA_take (.bool true) (yG_val _ (by rfl) (fun w' _ => by (go_simp; try rfl))) ?_
  (try simp only [Act.put, List.getElem_toArray, List.getElem_cons_succ, List.getElem_cons_zero, List.setIfInBounds_toArray, List.set_cons_zero, List.set_cons_succ])
  refine wpLA_take (.bool true) (yG_val _ (by rfl) (fun w' _ => by (go_simp; try rfl))) ?_
  (try simp only [Act.put, List.getElem_toArray, List.getElem_cons_succ, List.getElem_cons_zero, List.setIfInBounds_toArray, List.set_cons_zero, List.set_cons_succ])
  refine wpLA_take (.int .u8 0) (yG_val _ (by rfl) (fun w' _ => by (go_simp; try rfl))) ?_
  (try simp only [Act.put, List.getElem_toArray, List.getElem_cons_succ, List.getElem_cons_zero, List.setIfInBounds_toArray, List.set_cons_zero, List.set_cons_succ])
  refine wpLA_take (.int .i64 0) (yG_val _ (by rfl) (fun w' _ => by (go_simp; try rfl))) ?_
  (try simp only [Act.put, List.getElem_toArray, List.getElem_cons_succ, List.getElem_cons_zero, List.setIfInBounds_toArray, List.set_cons_zero, List.set_cons_succ])
  refine wpLA_take (.bool true) (yG_val _ (by rfl) (fun w' _ => by (go_simp; try rfl))) ?_
  (try simp only [Act.put, List.getElem_toArray, List.getElem_cons_succ, List.getElem_cons_zero, List.setIfInBounds_toArray, List.set_cons_zero, List.set_cons_succ])
  refine wpLA_take (.bool true) (yG_val _ (by rfl) (fun w' _ => by (go_simp; try rfl))) ?_
  (try simp only [Act.put, List.getElem_toArray, List.getElem_cons_succ, List.getElem_cons_zero, List.setIfInBounds_toArray, List.set_cons_zero, List.set_cons_succ])
  refine wpLA_take (.bool true) (yG_val _ (by rfl) (fun w' _ => by (go_simp; try rfl))) ?_
  (try simp only [Act.put, List.getElem_toArray, List.getElem_cons_succ, List.getElem_cons_zero, List.setIfInBounds_toArray, List.set_cons_zero, List.set_cons_succ])
  refine wpLA_take (.slice A 32 c) (yG_val _ (by rfl) (fun w' _ => by (go_simp; try rfl))) ?_
  (try simp only [Act.put, List.getElem_toArray, List.getElem_cons_succ, List.getElem_cons_zero, List.setIfInBounds_toArray, List.set_cons_zero, List.set_cons_succ])
  refine wpLA_take (.agg (sF s1)) (yG_call (by rfl) (fun w' => by go_simp) (fun w' hb => KC.out _ _ w' (HG.out.below (S31.out.on hb).below (Nat.le_refl _)) (HS.out.on6 ((S31.out.on hb).below)))) ?_
  (try simp only [Act.put, List.getElem_toArray, List.getElem_cons_succ, List.getElem_cons_zero, List.setIfInBounds_toArray, List.set_cons_zero, List.set_cons_succ])
  refine wpLA_bytes (leB 32 n1) (by rfl) (fun w' => by go_simp) (fun w' hb => KSB.out w') ?_
  intro A32 c32 w32 hb hs
  have S32 : Hid (St w w32 [(p15, g, PT)] [(A32, c32, bvs (leB 32 n1)), (A30, c30, ivs (dg (n6))), (A29, c29, ivs (dg (n5))), (A28, c28, ivs (dg (n4))), (A26, c26, ivs (dg (n3))), (A23, c23, bvs (RB)), (A22, c22, bvs (leB 32 n2)), (A19, c19, bvs (PB)), (A18, c18, bvs (leB 32 n1)), (A13, c13, ivs (dg (n2))), (A12, c12, bvs P32), (A10, c10, ivs (dg (n1))), (A9, c9, ivs (dg (N0))), ((some ⟨b6, o6, none⟩), c6, bvs (SB)), ((some ⟨b4, o4, none⟩), c4, bvs (PB))]) := hid ((S31.out.on hb).more hs)
  clear hb hs S31
  (try simp only [Act.put, List.getElem_toArray, List.getElem_cons_succ, List.getElem_cons_zero, List.setIfInBounds_toArray, List.set_cons_zero, List.set_cons_succ])
  refine wpLA_take (.slice A10 ((dg (n1)).length) c10) (yG_val _ (by rfl) (fun w' _ => by (go_simp; try rfl))) ?_
  (try simp only [Act.put, List.getElem_toArray, List.getElem_cons_succ, List.getElem_cons_zero, List.setIfInBounds_toArray, List.set_cons_zero, List.set_cons_succ])
  refine wpLA_bytes (leB 32 n1) (by rfl) (fun w' => by go_simp) (fun w' hb => KB1.out _ _ w' (S32.out.on hb).sq.2.2.2.2.2.2.2.2.2.2.2.1) ?_
  intro A33 c33 w33 hb hs
  have S33 : Hid (St w w33 [(p15, g, PT)] [(A33, c33, bvs (leB 32 n1)), (A32, c32, bvs (leB 32 n1)), (A30, c30, ivs (dg (n6))), (A29, c29, ivs (dg (n5))), (A28, c28, ivs (dg (n4))), (A26, c26, ivs (dg (n3))), (A23, c23, bvs (RB)), (A22, c22, bvs (leB 32 n2)), (A19, c19, bvs (PB)), (A18, c18, bvs (leB 32 n1)), (A13, c13, ivs (dg (n2))), (A12, c12, bvs P32), (A10, c10, ivs (dg (n1))), (A9, c9, ivs (dg (N0))), ((some ⟨b6, o6, none⟩), c6, bvs (SB)), ((some ⟨b4, o4, none⟩), c4, bvs (PB))]) := hid ((S32.out.on hb).more hs)
  clear hb hs S32
  (try simp only [Act.put, List.getElem_toArray, List.getElem_cons_succ, List.getElem_cons_zero, List.setIfInBounds_toArray, List.set_cons_zero, List.set_cons_succ])
  refine wpLA_take (.bool true) (yG_call (by rfl) (fun w' => by go_simp) (fun w' hb => KE0.out _ _ _ _ w' (S33.out.on hb).sq.2.1 (S33.out.on hb).sq.1)) ?_
  (try simp only [Act.put, List.getElem_toArray, List.getElem_cons_succ, List.getElem_cons_zero, List.setIfInBounds_toArray, List.set_cons_zero, List.set_cons_succ])
  refine wpLA_take (.bool true) (yG_val _ (by rfl) (fun w' _ => by (go_simp; try rfl))) ?_
  (try simp only [Act.put, List.getElem_toArray, List.getElem_cons_succ, List.getElem_cons_zero, List.setIfInBounds_toArray, List.set_cons_zero, List.set_cons_succ])
  refine wpLA_take (.bool true) (yG_val _ (by rfl) (fun w' _ => by (go_simp; try rfl))) ?_
  (try simp only [Act.put, List.getElem_toArray, List.getElem_cons_succ, List.getElem_cons_zero, List.setIfInBounds_toArray, List.set_cons_zero, List.set_cons_succ])
  refine wpLA_take (.slice (some ⟨b4, o4, none⟩) 32 c4) (yG_val _ (by rfl) (fun w' _ => by (go_simp; try rfl))) ?_
  (try simp only [Act.put, List.getElem_toArray, List.getElem_cons_succ, List.getElem_cons_zero, List.setIfInBounds_toArray, List.set_cons_zero, List.set_cons_succ])
  refine wpLA_take (.slice A19 ((PB).length) c19) (yG_val _ (by rfl) (fun w' _ => by (go_simp; try rfl))) ?_
  (try simp only [Act.put, List.getElem_toArray, List.getElem_cons_succ, List.getElem_cons_zero, List.setIfInBounds_toArray, List.set_cons_zero, List.set_cons_succ])
  refine wpLA_take (.bool true) (yG_call (by rfl) (fun w' => by go_simp) (fun w' hb => KE1.out _ _ _ _ w' (S33.out.on hb).sq.2.2.2.2.2.2.2.2.2.2.2.2.2.2.2.1 (S33.out.on hb).sq.2.2.2.2.2.2.2.2.1)) ?_
  (try simp only [Act.put, List.getElem_toArray, List.getElem_cons_succ, List.getElem_cons_zero, List.setIfInBounds_toArray, List.set_cons_zero, List.set_cons_succ])
  refine wpLA_take (.bool true) (yG_val _ (by rfl) (fun w' _ => by (go_simp; try rfl))) ?_
  (try simp only [Act.put, List.getElem_toArray, List.getElem_cons_succ, List.getElem_cons_zero, List.setIfInBounds_toArray, List.set_cons_zero, List.set_cons_succ])
  refine wpLA_take (.bool true) (yG_val _ (by rfl) (fun w' _ => by (go_simp; try rfl))) ?_
  (try simp only [Act.put, List.getElem_toArray, List.getElem_cons_succ, List.getElem_cons_zero, List.setIfInBounds_toArray, List.set_cons_zero, List.set_cons_succ])
  refine wpLA_take (.slice (some ⟨b6, o6, none⟩) 64 c6) (yG_val _ (by rfl) (fun w' _ => by (go_simp; try rfl))) ?_
  (try simp only [Act.put, List.getElem_toArray, List.getElem_cons_succ, List.getElem_cons_zero, List.setIfInBounds_toArray, List.set_cons_zero, List.set_cons_succ])
  refine wpLA_empty (by rfl) (fun w' => by (go_simp; try rfl)) ?_
  intro p34 w34 hb ho
  have HB34 : Hid (Below w33.heap.size w33 w34) := hid hb
  have O34 := hid ho
  have S34 : Hid (St w w34 [(p15, g, PT)] [(A33, c33, bvs (leB 32 n1)), (A32, c32, bvs (leB 32 n1)), (A30, c30, ivs (dg (n6))), (A29, c29, ivs (dg (n5))), (A28, c28, ivs (dg (n4))), (A26, c26, ivs (dg (n3))), (A23, c23, bvs (RB)), (A22, c22, bvs (leB 32 n2)), (A19, c19, bvs (PB)), (A18, c18, bvs (leB 32 n1)), (A13, c13, ivs (dg (n2))), (A12, c12, bvs P32), (A10, c10, ivs (dg (n1))), (A9, c9, ivs (dg (N0))), ((some ⟨b6, o6, none⟩), c6, bvs (SB)), ((some ⟨b4, o4, none⟩), c4, bvs (PB))]) := hid (S33.out.on hb)
  clear hb ho
  (try simp only [Act.put, List.getElem_toArray, List.getElem_cons_succ, List.getElem_cons_zero, List.setIfInBounds_toArray, List.set_cons_zero, List.set_cons_succ])
  refine wpLA_take (.slice A23 ((RB).length) c23) (yG_val _ (by rfl) (fun w' _ => by (go_simp; try rfl))) ?_
  (try simp only [Act.put, List.getElem_toArray, List.getElem_cons_succ, List.getElem_cons_zero, List.setIfInBounds_toArray, List.set_cons_zero, List.set_cons_succ])
  refine wpLA_append EX0.out (B := w33.heap.size) (xs := ([] : List UInt8)) (ys := RB) (by rfl) _ _ _ rfl Tryz.underlying22 infoU8 rfl O34.out rfl rfl ((S34.out).sq.2.2.2.2.2.2.1) (by have := LX0.out; rw [EX0.out] at this; simp only [List.length_append, List.length_nil] at this ⊢; omega) HB34.out.size ?_
  intro A35 c35 w35 ho hb
  have HB35 := hid (HB34.out.trans hb)
  have O35 := hid ho
  have S35 : Hid (St w w35 [(p15, g, PT)] [(A35, c35, bvs X0), (A33, c33, bvs (leB 32 n1)), (A32, c32, bvs (leB 32 n1)), (A30, c30, ivs (dg (n6))), (A29, c29, ivs (dg (n5))), (A28, c28, ivs (dg (n4))), (A26, c26, ivs (dg (n3))), (A23, c23, bvs (RB)), (A22, c22, bvs (leB 32 n2)), (A19, c19, bvs (PB)), (A18, c18, bvs (leB 32 n1)), (A13, c13, ivs (dg (n2))), (A12, c12, bvs P32), (A10, c10, ivs (dg (n1))), (A9, c9, ivs (dg (N0))), ((some ⟨b6, o6, none⟩), c6, bvs (SB)), ((some ⟨b4, o4, none⟩), c4, bvs (PB))]) := hid ((S33.out.on HB35.out).more (ownB_sq ho))
  clear ho hb S34 HB34 O34
  (try simp only [Act.put, List.getElem_toArray, List.getElem_cons_succ, List.getElem_cons_zero, List.setIfInBounds_toArray, List.set_cons_zero, List.set_cons_succ])
  refine wpLA_take (.slice A30 ((dg (n6)).length) c30) (yG_val _ (by rfl) (fun w' _ => by (go_simp; try rfl))) ?_
  (try simp only [Act.put, List.getElem_toArray, List.getElem_cons_succ, List.getElem_cons_zero, List.setIfInBounds_toArray, List.set_cons_zero, List.set_cons_succ])
  refine wpLA_bytes (leB 32 n6) (by rfl) (fun w' => by go_simp) (fun w' hb => KB6.out _ _ w' (S35.out.on hb).sq.2.2.2.1) ?_
  intro A36 c36 w36 hb hs
  have HB36 := hid (HB35.out.trans (hb.mono HB35.out.size))
  have O36 := hid (ownB_on O35.out hb)
  clear HB35 O35
  have S36 : Hid (St w w36 [(p15, g, PT)] [(A36, c36, bvs (leB 32 n6)), (A35, c35, bvs X0), (A33, c33, bvs (leB 32 n1)), (A32, c32, bvs (leB 32 n1)), (A30, c30, ivs (dg (n6))), (A29, c29, ivs (dg (n5))), (A28, c28, ivs (dg (n4))), (A26, c26, ivs (dg (n3))), (A23, c23, bvs (RB)), (A22, c22, bvs (leB 32 n2)), (A19, c19, bvs (PB)), (A18, c18, bvs (leB 32 n1)), (A13, c13, ivs (dg (n2))), (A12, c12, bvs P32), (A10, c10, ivs (dg (n1))), (A9, c9, ivs (dg (N0))), ((some ⟨b6, o6, none⟩), c6, bvs (SB)), ((some ⟨b4, o4, none⟩), c4, bvs (PB))]) := hid ((S35.out.on hb).more hs)
  clear hb hs S35
  (try simp only [Act.put, List.getElem_toArray, List.getElem_cons_succ, List.getElem_cons_zero, List.setIfInBounds_toArray, List.set_cons_zero, List.set_cons_succ])
  refine wpLA_append EX1.out (B := w33.heap.size) (xs := X0) (ys := leB 32 n6) (by rfl) _ _ _ rfl Tryz.underlying22 infoU8 rfl O36.out rfl rfl ((S36.out).sq.1) (by have := LX1.out; rw [EX1.out] at this; simp only [List.length_append, List.length_nil] at this ⊢; omega) HB36.out.size ?_
  intro A37 c37 w37 ho hb
  have HB37 := hid (HB36.out.trans hb)
  have O37 := hid ho
  have S37 : Hid (St w w37 [(p15, g, PT)] [(A37, c37, bvs X1), (A33, c33, bvs (leB 32 n1)), (A32, c32, bvs (leB 32 n1)), (A30, c30, ivs (dg (n6))), (A29, c29, ivs (dg (n5))), (A28, c28, ivs (dg (n4))), (A26, c26, ivs (dg (n3))), (A23, c23, bvs (RB)), (A22, c22, bvs (leB 32 n2)), (A19, c19, bvs (PB)), (A18, c18, bvs (leB 32 n1)), (A13, c13, ivs (dg (n2))), (A12, c12, bvs P32), (A10, c10, ivs (dg (n1))), (A9, c9, ivs (dg (N0))), ((some ⟨b6, o6, none⟩), c6, bvs (SB)), ((some ⟨b4, o4, none⟩), c4, bvs (PB))]) := hid ((S33.out.on HB37.out).more (ownB_sq ho))
  clear ho hb S36 HB36 O36
  (try simp only [Act.put, List.getElem_toArray, List.getElem_cons_succ, List.getElem_cons_zero, List.setIfInBounds_toArray, List.set_cons_zero, List.set_cons_succ])
  refine wpLA_take (.bool true) (yG_call (by rfl) (fun w' => by go_simp) (fun w' hb => KE2.out _ _ _ _ w' (S37.out.on hb).sq.2.2.2.2.2.2.2.2.2.2.2.2.2.2.2.1 (S37.out.on hb).sq.1)) ?_
  (try simp only [Act.put, List.getElem_toArray, List.getElem_cons_succ, List.getElem_cons_zero, List.setIfInBounds_toArray, List.set_cons_zero, List.set_cons_succ])
  refine wpLA_take (.bool true) (yG_val _ (by rfl) (fun w' _ => by (go_simp; try rfl))) ?_
  (try simp only [Act.put, List.getElem_toArray, List.getElem_cons_succ, List.getElem_cons_zero, List.setIfInBounds_toArray, List.set_cons_zero, List.set_cons_succ])
  refine wpLA_take (.bool true) (yG_val _ (by rfl) (fun w' _ => by (go_simp; try rfl))) ?_
  (try simp only [Act.put, List.getElem_toArray, List.getElem_cons_succ, List.getElem_cons_zero, List.setIfInBounds_toArray, List.set_cons_zero, List.set_cons_succ])
  refine wpLA_end ?_
  intro w38 hb
  have S38 := hid (S37.out.on hb)
  clear hb S37
  go_wp2_with fail
  go_ret
  exact ⟨rfl, S38.out.below⟩
theorem makes10_any (A : Option Addr) (xs : List UInt8) (c : Nat) (A' : Option Addr) (ys : List UInt8) (c' : Nat) (w : World) (hS : Sq w w.heap.size A c (bvs xs)) (hS' : Sq w w.heap.size A' c' (bvs ys)) (hG : GlobL w) :
    Calls Tryz.prog 3 #[.slice A xs.length c, .slice A' ys.length c'] w fun e w' => e = .returned (.bool true) ∧ Below w.heap.size w w' := by
  by_cases hx : 60 < xs.length
  · have hxi : (60 : Int) < (xs.length : Int) := by omega
    have HAL := hid (alive10_any w hG)
    clear hG hS hS' hx
    go_enter Tryz.func3, Tryz.ntmps3
    go_wp2_with fail
    refine HAL.out.mono ?_
    rintro e w1 ⟨rfl, hb1⟩
    go_wp2
    go_ret
    exact ⟨rfl, hb1⟩
  by_cases hy : 200 < ys.length
  · have hxi : ¬ (60 : Int) < (xs.length : Int) := by omega
    have hyi : (200 : Int) < (ys.length : Int) := by omega
    have HAL := hid (alive10_any w hG)
    clear hG hS hS' hx hy
    go_enter Tryz.func3, Tryz.ntmps3
    go_wp2_with fail
    refine HAL.out.mono ?_
    rintro e w1 ⟨rfl, hb1⟩
    go_wp2
    go_ret
    exact ⟨rfl, hb1⟩
  by_cases h32 : xs.length = 32
  · have := makes_some A xs c A' ys c' w hG hS hS' (by omega) h32
    rw [← h32] at this
    exact this
  · exact makes_none A xs c A' ys c' w hG hS hS' (by omega) (by omega) h32
end Go.Proofs.YtheamlhhfkaknaaGreatDoor
end
