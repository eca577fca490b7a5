/-
  The statements of layer 9: what the document makes of a point's bytes: the walk.
-/
import Derived.Test.YtealegfmmeklcaaLaw09a
import Derived.Test.YtealegfmmeklcaaCvR
import Derived.Test.YtealegfmmeklcaaCutP
import Derived.Test.YtealegfmmeklcaaRef06o
namespace Go.Proofs.Ytealegfmmeklcaa
open Go Go.RowKit
set_option linter.unusedVariables false
set_option linter.unusedSimpArgs false

/-- Bytes of one's own, the last of which is written anew. -/
theorem low_row {w1 : World} {B : Nat} {v1 : Value} {a : List UInt8} {z : UInt8} (y' : UInt8) (ha : a.length = 31) (h : w1.ownsRow B 5 1 v1 32 (bvs (a ++ [z]))) :
    ∃ g c1, v1 = .slice (some ⟨g, 0, none⟩) 32 c1 ∧ B ≤ g ∧ 32 ≤ c1 ∧ w1.cell? ⟨g, 31, none⟩ = some (.int .u8 (z.toNat : Int)) ∧ w1.frozen? ⟨g, 31, none⟩ = false ∧
      Sq (w1.setCell ⟨g, 31, none⟩ (.int .u8 (y'.toNat : Int))) (w1.setCell ⟨g, 31, none⟩ (.int .u8 (y'.toNat : Int))).heap.size (some ⟨g, 0, none⟩) c1 (bvs (a ++ [y'])) := by
  obtain ⟨A, c1, rfl, -⟩ := own_sl h
  obtain ⟨g, cur, rfl, hBg, hcur, hcells, hnc, hcm⟩ := own_parts h (by omega)
  have hget : (a ++ [z])[31]'(by simp [ha]) = z := by rw [List.getElem_append_right (by omega)]; simp [ha]
  have hset : (a ++ [z]).set 31 y' = a ++ [y'] := by rw [List.set_append_right _ _ (by omega), ha]; rfl
  have hc := cell_of hcur 31 _ (hcells 31 _ (bvs_at (a ++ [z]) 31 (by simp [ha])))
  rw [hget] at hc
  have hcs := set_cells hcells 31 (by simp [ha]) y'
  rw [hset] at hcs
  exact ⟨g, c1, rfl, hBg, hnc, hc, frozen_of_row _ _ _ _ _ hcur, row_sq (block_set hcur 31 _) hcs (by simp [ha]; omega) hcm⟩
set_option maxRecDepth 100000 in
set_option maxHeartbeats 4000000 in
theorem whole_any (p : Pt) (hp : p.on) (a : List UInt8) (z : UInt8) (ha : a.length = 31) (hb : pB p = a ++ [z]) (A : Option Addr) (c : Nat) (w : World) (hS : Sq w w.heap.size A c (bvs (a ++ [z]))) :
    Calls Try.prog 24 #[.slice A 32 c] w fun e w' => ∃ A1 c1 A2 c2, e = .returned (.agg (ptA A1 c1 p.x A2 c2 p.y)) ∧ Sq w' w'.heap.size A1 c1 (ivs (dg p.x.val)) ∧ Sq w' w'.heap.size A2 c2 (ivs (dg p.y.val)) ∧ Below w.heap.size w w' := by
  have HS := hid hS
  have hl32 : (a ++ [z]).length = 32 := by simp [ha]
  clear hS
  have hz := z.toNat_lt
  obtain ⟨y', hy'⟩ : ∃ y' : UInt8, y' = UInt8.ofNat (z.toNat % 128) := ⟨_, rfl⟩
  have hyv : y'.toNat = z.toNat % 128 := by rw [hy', UInt8.toNat_ofNat']; omega
  have hlow : leN (a ++ [y']) = p.y.val := by rw [hy', low_num ha]; exact (pt_bits ha hb).1.symm
  have hr1 : ((z.toNat : Int)).tmod 128 = (y'.toNat : Int) := by rw [Int.tmod_eq_emod_of_nonneg (by omega)]; omega
  have hr2 : (z.toNat : Int) % 128 = (y'.toNat : Int) := by omega
  have hr3 : IntKind.u8.wrap (y'.toNat : Int) = (y'.toNat : Int) := by rw [IntKind.wrap_u8]; omega
  have HZ0 : Hid ((w.alloc (.cells #[.slice none 0 0, .slice none 0 0] TP)).heap[w.heap.size]? = some (.cells #[.slice none 0 0, .slice none 0 0] TP (0, 0))) := hid (blkN rfl _ _)
  have HB0 : Hid (Below w.heap.size w (w.alloc (.cells #[.slice none 0 0, .slice none 0 0] TP))) := hid ((Below.refl _ _).alloc (Nat.le_refl _) _)
  have hlb : (bvs (a ++ [z])).length = 32 := by simp [ha]
  have HLB := hid hlb; have HL32 := hid hl32; have HYV := hid hyv; have HHB := hid hb; have HP := hid hp; have HLOW := hid hlow; have HA := hid ha
  clear hlb hl32 hyv hy' hb hp hlow ha hz
  go_enter Try.func24, Try.ntmps24
  go_wp2_with (at_builtin; refine wpList_append_lie rfl _ _ 22 rfl (w.heap.size + 1) 5 (.int .u8 0) 1 Try.underlying22 infoU8 rfl rfl (erow6 _ _ (k := w.heap.size + 1) (by simp) (Nat.le_refl _)) HLB.out rfl ((HS.out.lie.alloc (Nat.le_refl _) _).alloc (by simp) _) (bvs_one _) ?d1 ?d2 ?d3 ?_)
  case d1 => unfold maxLen; omega
  case d2 => omega
  case d3 => simp
  intro v1 w1 hown1 hg1 hat1
  obtain ⟨g, cl, rfl, hBg, hnc, hc31, hf31, hsq⟩ := low_row y' HA.out hown1
  have hnc1 : (32 : Int) ≤ (cl : Int) := by omega
  have hb1 : Below w.heap.size w w1 := ((HB0.out.alloc (by simp) _)).grown hg1 (by simp; omega) (by intro q hq; simp [Value.ownBlock] at hq; omega)
  have hz1 : w1.heap[w.heap.size]? = some (.cells #[.slice none 0 0, .slice none 0 0] TP (0, 0)) := (hg1.block _ (by simp; omega) (by simp [Value.ownBlock])).trans (blkA HZ0.out _)
  have hz2 : (w1.setCell ⟨g, 31, none⟩ (.int .u8 (y'.toNat : Int))).heap[w.heap.size]? = some (.cells #[.slice none 0 0, .slice none 0 0] TP (0, 0)) := by
    rw [Below.heap_setCell _ _ _ _ (show w.heap.size ≠ g by omega)]; exact hz1
  have hb2 : Below w.heap.size w (w1.setCell ⟨g, 31, none⟩ (.int .u8 (y'.toNat : Int))) := hb1.setCell (p := ⟨g, 31, none⟩) (by simp; omega) _
  have S0 : Hid (St w (w1.setCell ⟨g, 31, none⟩ (.int .u8 (y'.toNat : Int))) [(w.heap.size, #[.slice none 0 0, .slice none 0 0], TP)] [((some ⟨g, 0, none⟩), cl, bvs (a ++ [y']))]) := hid ⟨hb2, ⟨hz2, trivial⟩, by simp, (fun q h => by simp at h; subst h; exact Nat.le_refl _), hsq, trivial⟩
  clear hsq hb1 hb2 hz1 hz2 hown1 hg1 hat1 hBg HZ0 HB0
  -- the walk
  have KOF : Hid (∀ A c W, Sq W W.heap.size A c (bvs (a ++ [y'])) → Calls Try.prog 11 #[.slice A 32 c] W (BigR W p.y.val)) := hid fun A c W h => by
    have h2 := Of6_any A (a ++ [y']) c W h (by simp [HA.out])
    rw [show (a ++ [y']).length = 32 by simp [HA.out], HLOW.out] at h2
    exact h2
  obtain ⟨s, hs⟩ : ∃ s, s = sqX p.y := ⟨_, rfl⟩
  have KSQ : Hid (∀ A c W, Sq W W.heap.size A c (ivs (dg p.y.val)) → Calls Try.prog 16 #[.slice A (dg p.y.val).length c] W (BigR W s.val)) := hid fun A c W h => by rw [hs]; exact Square9_any p.y A c W h
  obtain ⟨Pn, hPn⟩ : ∃ n, n = pp := ⟨_, rfl⟩
  have KP : Hid (∀ W, Calls Try.prog 13 #[] W (BigR W Pn)) := hid fun W => by rw [hPn]; exact P_any W
  have KN : ∀ n : Nat, n < 18446744073709551616 → Hid (∀ W, Calls Try.prog 15 #[.int .u64 (n : Int)] W (BigR W n)) := fun n h => hid fun W => Num_any n W h
  have K3 := KN 3 (by omega)
  have K8 := KN 8 (by omega)
  have K4 := KN 4 (by omega)
  have K2 := KN 2 (by omega)
  have hPl : (dg Pn).length ≤ 1000 := by rw [hPn]; exact (dg_length_le pp 1000).2 (by decide +kernel)
  have hsml : ∀ n : Nat, n < 32768 → (dg n).length ≤ 1000 := fun n h => (dg_length_le n 1000).2 (Nat.lt_of_lt_of_le h (by decide +kernel))
  obtain ⟨P3, hP3⟩ : ∃ n, n = Pn + 3 := ⟨_, rfl⟩
  have KA : Hid (∀ A A' c c' W, Sq W W.heap.size A c (ivs (dg Pn)) → Sq W W.heap.size A' c' (ivs (dg 3)) → Calls Try.prog 42 #[.slice A (dg Pn).length c, .slice A' (dg 3).length c'] W (BigR W P3)) := hid fun A A' c c' W h h' => by
    rw [hP3]; exact Add_any Pn 3 A A' c c' W h h' (by omega) (by have := hsml 3 (by omega); omega)
  obtain ⟨e8, he8⟩ : ∃ n, n = P3 / 8 := ⟨_, rfl⟩
  obtain ⟨r8, hr8⟩ : ∃ n, n = P3 % 8 := ⟨_, rfl⟩
  have hP3l : (dg P3).length ≤ 1000 := by rw [hP3, hPn]; exact (dg_length_le _ 1000).2 (by decide +kernel)
  have KD8 : Hid (∀ A A' c c' W, Sq W W.heap.size A c (ivs (dg P3)) → Sq W W.heap.size A' c' (ivs (dg 8)) → Calls Try.prog 14 #[.slice A (dg P3).length c, .slice A' (dg 8).length c'] W fun e w' => ∃ A1 c1 A2 c2, e = .returned (.tuple #[.slice A1 (dg e8).length c1, .slice A2 (dg r8).length c2]) ∧ Sq w' w'.heap.size A1 c1 (ivs (dg e8)) ∧ Sq w' w'.heap.size A2 c2 (ivs (dg r8)) ∧ Below W.heap.size W w') := hid fun A A' c c' W h h' => by
    rw [he8, hr8]; exact Div_any P3 8 A A' c c' W h h' (by omega) (by have := hsml 8 (by omega); omega) (by omega)
  obtain ⟨f4, hf4⟩ : ∃ n, n = Pn / 4 := ⟨_, rfl⟩
  obtain ⟨r4, hr4⟩ : ∃ n, n = Pn % 4 := ⟨_, rfl⟩
  have KD4 : Hid (∀ A A' c c' W, Sq W W.heap.size A c (ivs (dg Pn)) → Sq W W.heap.size A' c' (ivs (dg 4)) → Calls Try.prog 14 #[.slice A (dg Pn).length c, .slice A' (dg 4).length c'] W fun e w' => ∃ A1 c1 A2 c2, e = .returned (.tuple #[.slice A1 (dg f4).length c1, .slice A2 (dg r4).length c2]) ∧ Sq w' w'.heap.size A1 c1 (ivs (dg f4)) ∧ Sq w' w'.heap.size A2 c2 (ivs (dg r4)) ∧ Below W.heap.size W w') := hid fun A A' c c' W h h' => by
    rw [hf4, hr4]; exact Div_any Pn 4 A A' c c' W h h' (by omega) (by have := hsml 4 (by omega); omega) (by omega)
  have he8p : e8 = (pp + 3) / 8 := by rw [he8, hP3, hPn]
  have hf4p : f4 = pp / 4 := by rw [hf4, hPn]
  obtain ⟨B8, hB8⟩ : ∃ b, b = leB 32 e8 := ⟨_, rfl⟩
  obtain ⟨B4, hB4⟩ : ∃ b, b = leB 32 f4 := ⟨_, rfl⟩
  have hB8l : B8.length = 32 := by rw [hB8, leB_length]
  have hB4l : B4.length = 32 := by rw [hB4, leB_length]
  have hB8n : leN B8 = (pp + 3) / 8 := by rw [hB8, leN_leB, he8p]; decide +kernel
  have hB4n : leN B4 = pp / 4 := by rw [hB4, leN_leB, hf4p]; decide +kernel
  have KB8 : Hid (∀ A c W, Sq W W.heap.size A c (ivs (dg e8)) → Calls Try.prog 18 #[.slice A (dg e8).length c, .int .i64 32] W fun e w' => ∃ v, e = .returned v ∧ OwnB w' W.heap.size v B8 ∧ Below W.heap.size W w') := hid fun A c W h => by
    rw [hB8]; exact Bytes6_any e8 32 A c W h (by rw [he8p]; decide +kernel) (by omega)
  have KB4 : Hid (∀ A c W, Sq W W.heap.size A c (ivs (dg f4)) → Calls Try.prog 18 #[.slice A (dg f4).length c, .int .i64 32] W fun e w' => ∃ v, e = .returned v ∧ OwnB w' W.heap.size v B4 ∧ Below W.heap.size W w') := hid fun A c W h => by
    rw [hB4]; exact Bytes6_any f4 32 A c W h (by rw [hf4p]; decide +kernel) (by omega)
  obtain ⟨X1, hX1⟩ : ∃ x : FF, x = ⟨rt1 s.val, rt1_lt _⟩ := ⟨_, rfl⟩
  have KW1 : Hid (∀ A A' c c' W, Sq W W.heap.size A c (ivs (dg s.val)) → Sq W W.heap.size A' c' (bvs B8) → Calls Try.prog 17 #[.slice A (dg s.val).length c, .slice A' B8.length c'] W (BigR W X1.val)) := hid fun A A' c c' W h h' => by
    have h2 := Pow6_any s.val A c A' B8 c' W h h' s.isLt (by omega)
    rw [hB8n] at h2
    rw [hX1]; exact h2
  obtain ⟨I1, hI1⟩ : ∃ x : FF, x = ⟨ii, ii_lt⟩ := ⟨_, rfl⟩
  have KW2 : Hid (∀ A A' c c' W, Sq W W.heap.size A c (ivs (dg 2)) → Sq W W.heap.size A' c' (bvs B4) → Calls Try.prog 17 #[.slice A (dg 2).length c, .slice A' B4.length c'] W (BigR W I1.val)) := hid fun A A' c c' W h h' => by
    have h2 := Pow6_any 2 A c A' B4 c' W h h' (by decide +kernel) (by omega)
    rw [hB4n, ii_pow] at h2
    rw [hI1]; exact h2
  obtain ⟨Q, hQ⟩ : ∃ x : FF, x = X1 * X1 := ⟨_, rfl⟩
  have KQ := mulF hQ
  obtain ⟨X2, hX2⟩ : ∃ x : FF, x = X1 * I1 := ⟨_, rfl⟩
  have KX2 := mulF hX2
  have KS := sameF Q s
  have hrt : rtF s = if Q = s then X1 else X2 := by
    refine Fin.ext ?_
    show rt2 s.val = _
    unfold rt2
    have e1 : (rt1 s.val * rt1 s.val % pp = s.val) ↔ Q = s := by
      rw [hQ, hX1, Fin.ext_iff, FF_sq_val]
    by_cases h : Q = s
    · rw [if_pos h, if_pos (e1.2 h), hX1]
    · rw [if_neg h, if_neg (fun h2 => h (e1.1 h2)), hX2, hX1, hI1]
      exact (FF_val_mul ⟨rt1 s.val, rt1_lt _⟩ ⟨ii, ii_lt⟩).symm
  have hbz : p.x.val % 2 = if 128 ≤ z.toNat then 1 else 0 := (pt_bits HA.out HHB.out).2
  have hwx := whole_x HP.out
  rw [← hs, hrt] at hwx
  have h31 : (a ++ [z])[31]'(by simp [HA.out]) = z := by rw [List.getElem_append_right (by have := HA.out; omega)]; simp [HA.out]
  obtain ⟨bk, bo, hAe, hbk, hcell⟩ := HS.out.lie.byte (k := 31) (by simp [HA.out])
  rw [h31] at hcell
  subst hAe
  have HCELL := hid hcell; have HBK := hid hbk
  have HWX := hid hwx; have HBZ := hid hbz
  have KOD := hid (fun (x : FF) A c B W h => Odd9_any x.val A c B W h (Nat.le_trans (dg17 x.val x.isLt) (by omega)))
  clear KN hsml hPl hP3l hPn hP3 he8 hr8 hf4 hr4 he8p hf4p hB8 hB4 hB8n hB4n hX1 hI1 hQ hX2 hrt hs hbz hwx h31 hcell hbk
  have HB8L := hid hB8l; have HB4L := hid hB4l
  clear hB8l hB4l
  go_upto_region 3 with fail
  generalize w1.setCell ⟨g, 31, none⟩ (.int .u8 (y'.toNat : Int)) = w2 at S0 ⊢
  clear hc31 hf31 hnc hnc1 hr1 hr2 hr3
  refine wpLA_start ?_
  refine wpLA_take (.slice (some ⟨g, 0, none⟩) 32 cl) (yG_val _ (by rfl) (fun w' _ => by (go_simp; try rfl))) ?_
  (try simp only [Act.put, List.getElem_toArray, List.getElem_cons_succ, List.getElem_cons_zero, List.setIfInBounds_toArray, List.set_cons_zero, List.set_cons_succ])
  refine wpLA_big (p.y.val) (by rfl) (fun w' => by go_simp) (fun w' hb => KOF.out _ _ w' (S0.out.on hb).sq.1) ?_
  intro A1 c1 w1 hb hs
  have S1 : Hid (St w w1 [(w.heap.size, #[.slice none 0 0, .slice none 0 0], TP)] [(A1, c1, ivs (dg (p.y.val))), ((some ⟨g, 0, none⟩), cl, bvs (a ++ [y']))]) := hid ((S0.out.on hb).more hs)
  clear hb hs S0
  (try simp only [Act.put, List.getElem_toArray, List.getElem_cons_succ, List.getElem_cons_zero, List.setIfInBounds_toArray, List.set_cons_zero, List.set_cons_succ])
  refine wpLA_take (.slice A1 ((dg (p.y.val)).length) c1) (yG_val _ (by rfl) (fun w' _ => by (go_simp; try rfl))) ?_
  (try simp only [Act.put, List.getElem_toArray, List.getElem_cons_succ, List.getElem_cons_zero, List.setIfInBounds_toArray, List.set_cons_zero, List.set_cons_succ])
  refine wpLA_end ?_
  intro w2 hb
  have S2 := hid (S1.out.on hb)
  clear hb S1
  go_upto_region 4 with fail
  refine wpLA_start ?_
  refine wpLA_take (.slice A1 ((dg (p.y.val)).length) c1) (yG_val _ (by rfl) (fun w' _ => by (go_simp; try rfl))) ?_
  (try simp only [Act.put, List.getElem_toArray, List.getElem_cons_succ, List.getElem_cons_zero, List.setIfInBounds_toArray, List.set_cons_zero, List.set_cons_succ])
  refine wpLA_big (s.val) (by rfl) (fun w' => by go_simp) (fun w' hb => KSQ.out _ _ w' (S2.out.on hb).sq.1) ?_
  intro A3 c3 w3 hb hs
  have S3 : Hid (St w w3 [(w.heap.size, #[.slice none 0 0, .slice none 0 0], TP)] [(A3, c3, ivs (dg (s.val))), (A1, c1, ivs (dg (p.y.val))), ((some ⟨g, 0, none⟩), cl, bvs (a ++ [y']))]) := hid ((S2.out.on hb).more hs)
  clear hb hs S2
  (try simp only [Act.put, List.getElem_toArray, List.getElem_cons_succ, List.getElem_cons_zero, List.setIfInBounds_toArray, List.set_cons_zero, List.set_cons_succ])
  refine wpLA_take (.slice A3 ((dg (s.val)).length) c3) (yG_val _ (by rfl) (fun w' _ => by (go_simp; try rfl))) ?_
  (try simp only [Act.put, List.getElem_toArray, List.getElem_cons_succ, List.getElem_cons_zero, List.setIfInBounds_toArray, List.set_cons_zero, List.set_cons_succ])
  refine wpLA_end ?_
  intro w4 hb
  have S4 := hid (S3.out.on hb)
  clear hb S3
  go_upto_region 5 with fail
  refine wpLA_start ?_
  refine wpLA_big (Pn) (by rfl) (fun w' => by go_simp) (fun w' hb => KP.out w') ?_
  intro A5 c5 w5 hb hs
  have S5 : Hid (St w w5 [(w.heap.size, #[.slice none 0 0, .slice none 0 0], TP)] [(A5, c5, ivs (dg (Pn))), (A3, c3, ivs (dg (s.val))), (A1, c1, ivs (dg (p.y.val))), ((some ⟨g, 0, none⟩), cl, bvs (a ++ [y']))]) := hid ((S4.out.on hb).more hs)
  clear hb hs S4
  (try simp only [Act.put, List.getElem_toArray, List.getElem_cons_succ, List.getElem_cons_zero, List.setIfInBounds_toArray, List.set_cons_zero, List.set_cons_succ])
  refine wpLA_big (3) (by rfl) (fun w' => by go_simp) (fun w' hb => K3.out w') ?_
  intro A6 c6 w6 hb hs
  have S6 : Hid (St w w6 [(w.heap.size, #[.slice none 0 0, .slice none 0 0], TP)] [(A6, c6, ivs (dg (3))), (A5, c5, ivs (dg (Pn))), (A3, c3, ivs (dg (s.val))), (A1, c1, ivs (dg (p.y.val))), ((some ⟨g, 0, none⟩), cl, bvs (a ++ [y']))]) := hid ((S5.out.on hb).more hs)
  clear hb hs S5
  (try simp only [Act.put, List.getElem_toArray, List.getElem_cons_succ, List.getElem_cons_zero, List.setIfInBounds_toArray, List.set_cons_zero, List.set_cons_succ])
  refine wpLA_big (P3) (by rfl) (fun w' => by go_simp) (fun w' hb => KA.out _ _ _ _ w' (S6.out.on hb).sq.2.1 (S6.out.on hb).sq.1) ?_
  intro A7 c7 w7 hb hs
  have S7 : Hid (St w w7 [(w.heap.size, #[.slice none 0 0, .slice none 0 0], TP)] [(A7, c7, ivs (dg (P3))), (A6, c6, ivs (dg (3))), (A5, c5, ivs (dg (Pn))), (A3, c3, ivs (dg (s.val))), (A1, c1, ivs (dg (p.y.val))), ((some ⟨g, 0, none⟩), cl, bvs (a ++ [y']))]) := hid ((S6.out.on hb).more hs)
  clear hb hs S6
  (try simp only [Act.put, List.getElem_toArray, List.getElem_cons_succ, List.getElem_cons_zero, List.setIfInBounds_toArray, List.set_cons_zero, List.set_cons_succ])
  refine wpLA_big (8) (by rfl) (fun w' => by go_simp) (fun w' hb => K8.out w') ?_
  intro A8 c8 w8 hb hs
  have S8 : Hid (St w w8 [(w.heap.size, #[.slice none 0 0, .slice none 0 0], TP)] [(A8, c8, ivs (dg (8))), (A7, c7, ivs (dg (P3))), (A6, c6, ivs (dg (3))), (A5, c5, ivs (dg (Pn))), (A3, c3, ivs (dg (s.val))), (A1, c1, ivs (dg (p.y.val))), ((some ⟨g, 0, none⟩), cl, bvs (a ++ [y']))]) := hid ((S7.out.on hb).more hs)
  clear hb hs S7
  (try simp only [Act.put, List.getElem_toArray, List.getElem_cons_succ, List.getElem_cons_zero, List.setIfInBounds_toArray, List.set_cons_zero, List.set_cons_succ])
  refine wpLA_div e8 r8 (by rfl) (fun w' => by go_simp) (fun w' hb => KD8.out _ _ _ _ w' (S8.out.on hb).sq.2.1 (S8.out.on hb).sq.1) ?_
  intro A9 c9 B9 d9 w9 hb hs hs2
  have S9 : Hid (St w w9 [(w.heap.size, #[.slice none 0 0, .slice none 0 0], TP)] [(A9, c9, ivs (dg e8)), (B9, d9, ivs (dg r8)), (A8, c8, ivs (dg (8))), (A7, c7, ivs (dg (P3))), (A6, c6, ivs (dg (3))), (A5, c5, ivs (dg (Pn))), (A3, c3, ivs (dg (s.val))), (A1, c1, ivs (dg (p.y.val))), ((some ⟨g, 0, none⟩), cl, bvs (a ++ [y']))]) := hid (((S8.out.on hb).more hs2).more hs)
  clear hb hs hs2 S8
  (try simp only [Act.put, List.getElem_toArray, List.getElem_cons_succ, List.getElem_cons_zero, List.setIfInBounds_toArray, List.set_cons_zero, List.set_cons_succ])
  refine wpLA_take (.tuple #[(.slice A9 ((dg e8).length) c9), (.slice B9 ((dg r8).length) d9)]) (yG_val _ (by rfl) (fun w' _ => by (go_simp; try rfl))) ?_
  (try simp only [Act.put, List.getElem_toArray, List.getElem_cons_succ, List.getElem_cons_zero, List.setIfInBounds_toArray, List.set_cons_zero, List.set_cons_succ])
  refine wpLA_take (.slice A9 ((dg e8).length) c9) (yG_val _ (by rfl) (fun w' _ => by (go_simp; try rfl))) ?_
  (try simp only [Act.put, List.getElem_toArray, List.getElem_cons_succ, List.getElem_cons_zero, List.setIfInBounds_toArray, List.set_cons_zero, List.set_cons_succ])
  refine wpLA_take (.slice B9 ((dg r8).length) d9) (yG_val _ (by rfl) (fun w' _ => by (go_simp; try rfl))) ?_
  (try simp only [Act.put, List.getElem_toArray, List.getElem_cons_succ, List.getElem_cons_zero, List.setIfInBounds_toArray, List.set_cons_zero, List.set_cons_succ])
  refine wpLA_take (.slice A9 ((dg e8).length) c9) (yG_val _ (by rfl) (fun w' _ => by (go_simp; try rfl))) ?_
  (try simp only [Act.put, List.getElem_toArray, List.getElem_cons_succ, List.getElem_cons_zero, List.setIfInBounds_toArray, List.set_cons_zero, List.set_cons_succ])
  refine wpLA_take (.slice B9 ((dg r8).length) d9) (yG_val _ (by rfl) (fun w' _ => by (go_simp; try rfl))) ?_
  (try simp only [Act.put, List.getElem_toArray, List.getElem_cons_succ, List.getElem_cons_zero, List.setIfInBounds_toArray, List.set_cons_zero, List.set_cons_succ])
  refine wpLA_end ?_
  intro w10 hb
  have S10 := hid (S9.out.on hb)
  clear hb S9
  go_upto_region 6 with fail
  refine wpLA_start ?_
  refine wpLA_big (Pn) (by rfl) (fun w' => by go_simp) (fun w' hb => KP.out w') ?_
  intro A11 c11 w11 hb hs
  have S11 : Hid (St w w11 [(w.heap.size, #[.slice none 0 0, .slice none 0 0], TP)] [(A11, c11, ivs (dg (Pn))), (A9, c9, ivs (dg e8)), (B9, d9, ivs (dg r8)), (A8, c8, ivs (dg (8))), (A7, c7, ivs (dg (P3))), (A6, c6, ivs (dg (3))), (A5, c5, ivs (dg (Pn))), (A3, c3, ivs (dg (s.val))), (A1, c1, ivs (dg (p.y.val))), ((some ⟨g, 0, none⟩), cl, bvs (a ++ [y']))]) := hid ((S10.out.on hb).more hs)
  clear hb hs S10
  (try simp only [Act.put, List.getElem_toArray, List.getElem_cons_succ, List.getElem_cons_zero, List.setIfInBounds_toArray, List.set_cons_zero, List.set_cons_succ])
  refine wpLA_big (4) (by rfl) (fun w' => by go_simp) (fun w' hb => K4.out w') ?_
  intro A12 c12 w12 hb hs
  have S12 : Hid (St w w12 [(w.heap.size, #[.slice none 0 0, .slice none 0 0], TP)] [(A12, c12, ivs (dg (4))), (A11, c11, ivs (dg (Pn))), (A9, c9, ivs (dg e8)), (B9, d9, ivs (dg r8)), (A8, c8, ivs (dg (8))), (A7, c7, ivs (dg (P3))), (A6, c6, ivs (dg (3))), (A5, c5, ivs (dg (Pn))), (A3, c3, ivs (dg (s.val))), (A1, c1, ivs (dg (p.y.val))), ((some ⟨g, 0, none⟩), cl, bvs (a ++ [y']))]) := hid ((S11.out.on hb).more hs)
  clear hb hs S11
  (try simp only [Act.put, List.getElem_toArray, List.getElem_cons_succ, List.getElem_cons_zero, List.setIfInBounds_toArray, List.set_cons_zero, List.set_cons_succ])
  refine wpLA_div f4 r4 (by rfl) (fun w' => by go_simp) (fun w' hb => KD4.out _ _ _ _ w' (S12.out.on hb).sq.2.1 (S12.out.on hb).sq.1) ?_
  intro A13 c13 B13 d13 w13 hb hs hs2
  have S13 : Hid (St w w13 [(w.heap.size, #[.slice none 0 0, .slice none 0 0], TP)] [(A13, c13, ivs (dg f4)), (B13, d13, ivs (dg r4)), (A12, c12, ivs (dg (4))), (A11, c11, ivs (dg (Pn))), (A9, c9, ivs (dg e8)), (B9, d9, ivs (dg r8)), (A8, c8, ivs (dg (8))), (A7, c7, ivs (dg (P3))), (A6, c6, ivs (dg (3))), (A5, c5, ivs (dg (Pn))), (A3, c3, ivs (dg (s.val))), (A1, c1, ivs (dg (p.y.val))), ((some ⟨g, 0, none⟩), cl, bvs (a ++ [y']))]) := hid (((S12.out.on hb).more hs2).more hs)
  clear hb hs hs2 S12
  (try simp only [Act.put, List.getElem_toArray, List.getElem_cons_succ, List.getElem_cons_zero, List.setIfInBounds_toArray, List.set_cons_zero, List.set_cons_succ])
  refine wpLA_take (.tuple #[(.slice A13 ((dg f4).length) c13), (.slice B13 ((dg r4).length) d13)]) (yG_val _ (by rfl) (fun w' _ => by (go_simp; try rfl))) ?_
  (try simp only [Act.put, List.getElem_toArray, List.getElem_cons_succ, List.getElem_cons_zero, List.setIfInBounds_toArray, List.set_cons_zero, List.set_cons_succ])
  refine wpLA_take (.slice A13 ((dg f4).length) c13) (yG_val _ (by rfl) (fun w' _ => by (go_simp; try rfl))) ?_
  (try simp only [Act.put, List.getElem_toArray, List.getElem_cons_succ, List.getElem_cons_zero, List.setIfInBounds_toArray, List.set_cons_zero, List.set_cons_succ])
  refine wpLA_take (.slice B13 ((dg r4).length) d13) (yG_val _ (by rfl) (fun w' _ => by (go_simp; try rfl))) ?_
  (try simp only [Act.put, List.getElem_toArray, List.getElem_cons_succ, List.getElem_cons_zero, List.setIfInBounds_toArray, List.set_cons_zero, List.set_cons_succ])
  refine wpLA_take (.slice A13 ((dg f4).length) c13) (yG_val _ (by rfl) (fun w' _ => by (go_simp; try rfl))) ?_
  (try simp only [Act.put, List.getElem_toArray, List.getElem_cons_succ, List.getElem_cons_zero, List.setIfInBounds_toArray, List.set_cons_zero, List.set_cons_succ])
  refine wpLA_take (.slice B13 ((dg r4).length) d13) (yG_val _ (by rfl) (fun w' _ => by (go_simp; try rfl))) ?_
  (try simp only [Act.put, List.getElem_toArray, List.getElem_cons_succ, List.getElem_cons_zero, List.setIfInBounds_toArray, List.set_cons_zero, List.set_cons_succ])
  refine wpLA_end ?_
  intro w14 hb
  have S14 := hid (S13.out.on hb)
  clear hb S13
  go_upto_region 7 with fail
  refine wpLA_start ?_
  refine wpLA_take (.slice A3 ((dg (s.val)).length) c3) (yG_val _ (by rfl) (fun w' _ => by (go_simp; try rfl))) ?_
  (try simp only [Act.put, List.getElem_toArray, List.getElem_cons_succ, List.getElem_cons_zero, List.setIfInBounds_toArray, List.set_cons_zero, List.set_cons_succ])
  refine wpLA_take (.slice A9 ((dg e8).length) c9) (yG_val _ (by rfl) (fun w' _ => by (go_simp; try rfl))) ?_
  (try simp only [Act.put, List.getElem_toArray, List.getElem_cons_succ, List.getElem_cons_zero, List.setIfInBounds_toArray, List.set_cons_zero, List.set_cons_succ])
  refine wpLA_bytes (B8) (by rfl) (fun w' => by go_simp) (fun w' hb => KB8.out _ _ w' (S14.out.on hb).sq.2.2.2.2.1) ?_
  intro A15 c15 w15 hb hs
  have S15 : Hid (St w w15 [(w.heap.size, #[.slice none 0 0, .slice none 0 0], TP)] [(A15, c15, bvs (B8)), (A13, c13, ivs (dg f4)), (B13, d13, ivs (dg r4)), (A12, c12, ivs (dg (4))), (A11, c11, ivs (dg (Pn))), (A9, c9, ivs (dg e8)), (B9, d9, ivs (dg r8)), (A8, c8, ivs (dg (8))), (A7, c7, ivs (dg (P3))), (A6, c6, ivs (dg (3))), (A5, c5, ivs (dg (Pn))), (A3, c3, ivs (dg (s.val))), (A1, c1, ivs (dg (p.y.val))), ((some ⟨g, 0, none⟩), cl, bvs (a ++ [y']))]) := hid ((S14.out.on hb).more hs)
  clear hb hs S14
  (try simp only [Act.put, List.getElem_toArray, List.getElem_cons_succ, List.getElem_cons_zero, List.setIfInBounds_toArray, List.set_cons_zero, List.set_cons_succ])
  refine wpLA_big (X1.val) (by rfl) (fun w' => by go_simp) (fun w' hb => KW1.out _ _ _ _ w' (S15.out.on hb).sq.2.2.2.2.2.2.2.2.2.2.2.1 (S15.out.on hb).sq.1) ?_
  intro A16 c16 w16 hb hs
  have S16 : Hid (St w w16 [(w.heap.size, #[.slice none 0 0, .slice none 0 0], TP)] [(A16, c16, ivs (dg (X1.val))), (A15, c15, bvs (B8)), (A13, c13, ivs (dg f4)), (B13, d13, ivs (dg r4)), (A12, c12, ivs (dg (4))), (A11, c11, ivs (dg (Pn))), (A9, c9, ivs (dg e8)), (B9, d9, ivs (dg r8)), (A8, c8, ivs (dg (8))), (A7, c7, ivs (dg (P3))), (A6, c6, ivs (dg (3))), (A5, c5, ivs (dg (Pn))), (A3, c3, ivs (dg (s.val))), (A1, c1, ivs (dg (p.y.val))), ((some ⟨g, 0, none⟩), cl, bvs (a ++ [y']))]) := hid ((S15.out.on hb).more hs)
  clear hb hs S15
  (try simp only [Act.put, List.getElem_toArray, List.getElem_cons_succ, List.getElem_cons_zero, List.setIfInBounds_toArray, List.set_cons_zero, List.set_cons_succ])
  refine wpLA_take (.slice A16 ((dg (X1.val)).length) c16) (yG_val _ (by rfl) (fun w' _ => by (go_simp; try rfl))) ?_
  (try simp only [Act.put, List.getElem_toArray, List.getElem_cons_succ, List.getElem_cons_zero, List.setIfInBounds_toArray, List.set_cons_zero, List.set_cons_succ])
  refine wpLA_end ?_
  intro w17 hb
  have S17 := hid (S16.out.on hb)
  clear hb S16
  go_upto_region 8 with fail
  refine wpLA_start ?_
  refine wpLA_take (.slice A16 ((dg (X1.val)).length) c16) (yG_val _ (by rfl) (fun w' _ => by (go_simp; try rfl))) ?_
  (try simp only [Act.put, List.getElem_toArray, List.getElem_cons_succ, List.getElem_cons_zero, List.setIfInBounds_toArray, List.set_cons_zero, List.set_cons_succ])
  refine wpLA_take (.slice A16 ((dg (X1.val)).length) c16) (yG_val _ (by rfl) (fun w' _ => by (go_simp; try rfl))) ?_
  (try simp only [Act.put, List.getElem_toArray, List.getElem_cons_succ, List.getElem_cons_zero, List.setIfInBounds_toArray, List.set_cons_zero, List.set_cons_succ])
  refine wpLA_big (Q.val) (by rfl) (fun w' => by go_simp) (fun w' hb => KQ.out w' _ _ _ _ (S17.out.on hb).sq.1 (S17.out.on hb).sq.1) ?_
  intro A18 c18 w18 hb hs
  have S18 : Hid (St w w18 [(w.heap.size, #[.slice none 0 0, .slice none 0 0], TP)] [(A18, c18, ivs (dg (Q.val))), (A16, c16, ivs (dg (X1.val))), (A15, c15, bvs (B8)), (A13, c13, ivs (dg f4)), (B13, d13, ivs (dg r4)), (A12, c12, ivs (dg (4))), (A11, c11, ivs (dg (Pn))), (A9, c9, ivs (dg e8)), (B9, d9, ivs (dg r8)), (A8, c8, ivs (dg (8))), (A7, c7, ivs (dg (P3))), (A6, c6, ivs (dg (3))), (A5, c5, ivs (dg (Pn))), (A3, c3, ivs (dg (s.val))), (A1, c1, ivs (dg (p.y.val))), ((some ⟨g, 0, none⟩), cl, bvs (a ++ [y']))]) := hid ((S17.out.on hb).more hs)
  clear hb hs S17
  (try simp only [Act.put, List.getElem_toArray, List.getElem_cons_succ, List.getElem_cons_zero, List.setIfInBounds_toArray, List.set_cons_zero, List.set_cons_succ])
  refine wpLA_take (.slice A3 ((dg (s.val)).length) c3) (yG_val _ (by rfl) (fun w' _ => by (go_simp; try rfl))) ?_
  (try simp only [Act.put, List.getElem_toArray, List.getElem_cons_succ, List.getElem_cons_zero, List.setIfInBounds_toArray, List.set_cons_zero, List.set_cons_succ])
  refine wpLA_take (.bool (decide (Q = s))) (yG_call (by rfl) (fun w' => by go_simp) (fun w' hb => calls_drew (KS.out w' _ _ _ _ _ _ (S18.out.on hb).sq.1 (S18.out.on hb).sq.2.2.2.2.2.2.2.2.2.2.2.2.2.1))) ?_
  (try simp only [Act.put, List.getElem_toArray, List.getElem_cons_succ, List.getElem_cons_zero, List.setIfInBounds_toArray, List.set_cons_zero, List.set_cons_succ])
  refine wpLA_take (.bool (!(decide (Q = s)))) (yG_val _ (by rfl) (fun w' _ => by (go_simp; try rfl))) ?_
  (try simp only [Act.put, List.getElem_toArray, List.getElem_cons_succ, List.getElem_cons_zero, List.setIfInBounds_toArray, List.set_cons_zero, List.set_cons_succ])
  refine wpLA_end ?_
  intro w19 hb
  have S19 := hid (S18.out.on hb)
  clear hb S18
  by_cases hqs : Q = s
  · rw [if_pos hqs] at HWX
    have hd : decide (Q = s) = true := decide_eq_true hqs
    clear hqs
    rw [hd]
    clear hd
    have HCW : Hid (w19.cell? ⟨bk, bo + 31, none⟩ = some (.int .u8 (z.toNat : Int))) := hid (by rw [S19.out.below.cell (p := ⟨bk, bo + 31, none⟩) HBK.out]; exact HCELL.out)
    obtain ⟨o, ho⟩ : ∃ b, b = decide (X1.val % 2 = 1) := ⟨_, rfl⟩
    obtain ⟨h, hh⟩ : ∃ b, b = decide (128 ≤ z.toNat) := ⟨_, rfl⟩
    have HO := hid ho; have HH := hid hh
    have KO1 : Hid (∀ A c B W, Sq W B A c (ivs (dg X1.val)) → Calls Try.prog 65 #[.slice A (dg X1.val).length c] W fun e w1 => e = .returned (.bool o) ∧ Below W.heap.size W w1) := hid fun A c B W hq => by rw [ho]; exact KOD.out X1 A c B W hq
    clear ho hh
    go_upto_region 10 with fail
    refine wp_region_grA 6 (by kernel_rfl) (by decide) ?_
    refine wpGrA_take (i := 0) (.slice A16 ((dg (X1.val)).length) c16) rfl (by kernel_rfl) (by kernel_rfl) (fun _ _ _ h => h) (yG_val _ (by rfl) (fun w' _ => by (go_simp; try rfl))) ?_
    (try simp only [Act.put, List.getElem_toArray, List.getElem_cons_succ, List.getElem_cons_zero, List.setIfInBounds_toArray, List.set_cons_zero, List.set_cons_succ])
    refine wpGrA_take (i := 2) (.slice (some ⟨bk, bo, none⟩) 32 c) rfl (by kernel_rfl) (by kernel_rfl) (fun _ _ _ h => h) (yG_val _ (by rfl) (fun w' _ => by (go_simp; try rfl))) ?_
    (try simp only [Act.put, List.getElem_toArray, List.getElem_cons_succ, List.getElem_cons_zero, List.setIfInBounds_toArray, List.set_cons_zero, List.set_cons_succ])
    refine wpGrA_take (i := 1) (.bool o) rfl (by kernel_rfl) (by kernel_rfl) (fun _ _ _ h => h) (yG_call (by rfl) (fun w' => by go_simp) (fun w' hb => KO1.out _ _ _ w' (S19.out.on hb).sq.2.1)) ?_
    (try simp only [Act.put, List.getElem_toArray, List.getElem_cons_succ, List.getElem_cons_zero, List.setIfInBounds_toArray, List.set_cons_zero, List.set_cons_succ])
    refine wpGrA_take (i := 3) (.pointer (some ⟨bk, (bo + 31), none⟩)) rfl (by kernel_rfl) (by kernel_rfl) (fun _ _ _ h => h) (yG_val _ (by rfl) (fun w' _ => by (go_simp; try rfl))) ?_
    (try simp only [Act.put, List.getElem_toArray, List.getElem_cons_succ, List.getElem_cons_zero, List.setIfInBounds_toArray, List.set_cons_zero, List.set_cons_succ])
    refine wpGrA_take (i := 4) (.int .u8 ((z.toNat : Nat))) rfl (by kernel_rfl) (by kernel_rfl) (fun _ _ _ h => h) (yG_val _ (by rfl) (fun w' _ => by (have hcw : w'.cell? ⟨bk, bo + 31, none⟩ = some (.int .u8 (z.toNat : Int)) := (by rw [Below.cell (p := ⟨bk, bo + 31, none⟩) (by assumption) (Nat.lt_of_lt_of_le HBK.out S19.out.below.size)]; exact HCW.out); go_simp; try rfl))) ?_
    (try simp only [Act.put, List.getElem_toArray, List.getElem_cons_succ, List.getElem_cons_zero, List.setIfInBounds_toArray, List.set_cons_zero, List.set_cons_succ])
    refine wpGrA_take (i := 5) (.bool h) rfl (by kernel_rfl) (by kernel_rfl) (fun _ _ _ h => h) (yG_val _ (by rfl) (fun w' _ => by (rw [HH.out]; go_simp; try omega))) ?_
    (try simp only [Act.put, List.getElem_toArray, List.getElem_cons_succ, List.getElem_cons_zero, List.setIfInBounds_toArray, List.set_cons_zero, List.set_cons_succ])
    refine wpGrA_end (by kernel_rfl) ?_
    intro w20 hb
    have S20 := hid (S19.out.on hb)
    clear hb S19
    refine wpLA_here ?_
    refine wpLA_take (.bool (o != h)) (yG_val _ (by rfl) (fun w' _ => by (go_simp; try (generalize o = x; generalize h = y; cases x <;> cases y <;> rfl)))) ?_
    (try simp only [Act.put, List.getElem_toArray, List.getElem_cons_succ, List.getElem_cons_zero, List.setIfInBounds_toArray, List.set_cons_zero, List.set_cons_succ])
    refine wpLA_end ?_
    intro w21 hb
    have S21 := hid (S20.out.on hb)
    clear hb S20
    have hox : o = decide (X1.val % 2 = 1) := HO.out
    have hhx : h = decide (p.x.val % 2 = 1) := by
      rw [HH.out, HBZ.out]
      by_cases h128 : 128 ≤ z.toNat <;> simp [h128]
    rw [← hox, ← hhx] at HWX
    clear hox hhx HO HH HCW KO1 KOD KS KQ KX2
    by_cases hoh : o = h
    · rw [if_pos hoh] at HWX
      have hd : (o != h) = false := by rw [hoh]; cases h <;> rfl
      rw [hd]
      clear hd hoh
      have hE : w21.heap[w.heap.size]? = some (.cells #[.slice none 0 0, .slice none 0 0] TP (0, 0)) := S21.out.cl.1
      have hS3 : Sq w21 w21.heap.size A16 c16 (ivs (dg X1.val)) := S21.out.sq.2.1
      have hS4 : Sq w21 w21.heap.size A1 c1 (ivs (dg p.y.val)) := S21.out.sq.2.2.2.2.2.2.2.2.2.2.2.2.2.2.1
      have hB9 := S21.out.below
      obtain ⟨gg, hgg⟩ : ∃ gg, gg = w.heap.size := ⟨_, rfl⟩
      have HGW : Hid (w.heap.size ≤ gg) := hid (by omega)
      rw [← hgg] at hE
      have hc0 : w21.cell? ⟨gg, 0, none⟩ = some (.slice none 0 0) := cell_of hE 0 _ rfl
      have hf0 : w21.frozen? ⟨gg, 0, none⟩ = false := frozen_of_row _ _ _ _ _ hE
      have hE1 : (w21.setCell ⟨gg, 0, none⟩ (.slice A16 (dg X1.val).length c16)).heap[gg]? = some (.cells #[(.slice A16 (dg X1.val).length c16), .slice none 0 0] TP (0, 0)) := block_set hE 0 _
      have hc1 : (w21.setCell ⟨gg, 0, none⟩ (.slice A16 (dg X1.val).length c16)).cell? ⟨gg, 1, none⟩ = some (.slice none 0 0) := cell_of hE1 1 _ rfl
      have hf1 : (w21.setCell ⟨gg, 0, none⟩ (.slice A16 (dg X1.val).length c16)).frozen? ⟨gg, 1, none⟩ = false := frozen_of_row _ _ _ _ _ hE1
      have hE2 : ((w21.setCell ⟨gg, 0, none⟩ (.slice A16 (dg X1.val).length c16)).setCell ⟨gg, 1, none⟩ (.slice A1 (dg p.y.val).length c1)).heap[gg]? = some (.cells (ptA A16 c16 X1 A1 c1 p.y) TP (0, 0)) := block_set hE1 1 _
      have HBx := hid ((hB9.setCell (p := ⟨gg, 0, none⟩) HGW.out (.slice A16 (dg X1.val).length c16)).setCell (p := ⟨gg, 1, none⟩) HGW.out (.slice A1 (dg p.y.val).length c1))
      have HS3 : Hid (Sq ((w21.setCell ⟨gg, 0, none⟩ (.slice A16 (dg X1.val).length c16)).setCell ⟨gg, 1, none⟩ (.slice A1 (dg p.y.val).length c1)) w21.heap.size A16 c16 (ivs (dg X1.val))) := hid ((hS3.far (ivs_int _) hE NoInt.two 0 _).far (ivs_int _) hE1 NoInt.two 1 _)
      have HS4 : Hid (Sq ((w21.setCell ⟨gg, 0, none⟩ (.slice A16 (dg X1.val).length c16)).setCell ⟨gg, 1, none⟩ (.slice A1 (dg p.y.val).length c1)) w21.heap.size A1 c1 (ivs (dg p.y.val))) := hid ((hS4.far (ivs_int _) hE NoInt.two 0 _).far (ivs_int _) hE1 NoInt.two 1 _)
      have HE2 := hid hE2
      clear hE hE1 hE2 hB9 hS3 hS4 S21
      rw [← hgg]
      clear hgg
      have HWXx := hid HWX
      clear HWX
      go_wp2
      refine bodyPost_ret (v := .agg (ptA A16 c16 X1 A1 c1 p.y)) (results_cell_row rfl _ _ gg TP (ptA A16 c16 X1 A1 c1 p.y) (0, 0) _ rfl HE2.out Try.underlying49 rfl infoP) rfl ⟨A16, c16, A1, c1, by rw [← HWXx.out], ?_, ?_, HBx.out⟩
      · rw [size_setC, size_setC, ← HWXx.out]; exact HS3.out
      · rw [size_setC, size_setC]; exact HS4.out
    · rw [if_neg hoh] at HWX
      have hd : (o != h) = true := by cases o <;> cases h <;> first | rfl | exact absurd rfl hoh
      rw [hd]
      clear hd hoh
      obtain ⟨N, hN⟩ : ∃ x : FF, x = 0 - X1 := ⟨_, rfl⟩
      rw [← hN] at HWX
      have KNg := subF0 hN
      clear hN
      go_upto_region 11 with fail
      refine wpLA_start ?_
      refine wpLA_take (.slice A16 ((dg (X1.val)).length) c16) (yG_val _ (by rfl) (fun w' _ => by (go_simp; try rfl))) ?_
      (try simp only [Act.put, List.getElem_toArray, List.getElem_cons_succ, List.getElem_cons_zero, List.setIfInBounds_toArray, List.set_cons_zero, List.set_cons_succ])
      refine wpLA_big (N.val) (by rfl) (fun w' => by go_simp) (fun w' hb => KNg.out w' _ _ (S21.out.on hb).sq.2.1) ?_
      intro A29 c29 w29 hb hs
      have S29 : Hid (St w w29 [(w.heap.size, #[.slice none 0 0, .slice none 0 0], TP)] [(A29, c29, ivs (dg (N.val))), (A18, c18, ivs (dg (Q.val))), (A16, c16, ivs (dg (X1.val))), (A15, c15, bvs (B8)), (A13, c13, ivs (dg f4)), (B13, d13, ivs (dg r4)), (A12, c12, ivs (dg (4))), (A11, c11, ivs (dg (Pn))), (A9, c9, ivs (dg e8)), (B9, d9, ivs (dg r8)), (A8, c8, ivs (dg (8))), (A7, c7, ivs (dg (P3))), (A6, c6, ivs (dg (3))), (A5, c5, ivs (dg (Pn))), (A3, c3, ivs (dg (s.val))), (A1, c1, ivs (dg (p.y.val))), ((some ⟨g, 0, none⟩), cl, bvs (a ++ [y']))]) := hid ((S21.out.on hb).more hs)
      clear hb hs S21
      (try simp only [Act.put, List.getElem_toArray, List.getElem_cons_succ, List.getElem_cons_zero, List.setIfInBounds_toArray, List.set_cons_zero, List.set_cons_succ])
      refine wpLA_take (.slice A29 ((dg (N.val)).length) c29) (yG_val _ (by rfl) (fun w' _ => by (go_simp; try rfl))) ?_
      (try simp only [Act.put, List.getElem_toArray, List.getElem_cons_succ, List.getElem_cons_zero, List.setIfInBounds_toArray, List.set_cons_zero, List.set_cons_succ])
      refine wpLA_end ?_
      intro w30 hb
      have S30 := hid (S29.out.on hb)
      clear hb S29
      have hE : w30.heap[w.heap.size]? = some (.cells #[.slice none 0 0, .slice none 0 0] TP (0, 0)) := S30.out.cl.1
      have hS3 : Sq w30 w30.heap.size A29 c29 (ivs (dg N.val)) := S30.out.sq.1
      have hS4 : Sq w30 w30.heap.size A1 c1 (ivs (dg p.y.val)) := S30.out.sq.2.2.2.2.2.2.2.2.2.2.2.2.2.2.2.1
      have hB9 := S30.out.below
      obtain ⟨gg, hgg⟩ : ∃ gg, gg = w.heap.size := ⟨_, rfl⟩
      have HGW : Hid (w.heap.size ≤ gg) := hid (by omega)
      rw [← hgg] at hE
      have hc0 : w30.cell? ⟨gg, 0, none⟩ = some (.slice none 0 0) := cell_of hE 0 _ rfl
      have hf0 : w30.frozen? ⟨gg, 0, none⟩ = false := frozen_of_row _ _ _ _ _ hE
      have hE1 : (w30.setCell ⟨gg, 0, none⟩ (.slice A29 (dg N.val).length c29)).heap[gg]? = some (.cells #[(.slice A29 (dg N.val).length c29), .slice none 0 0] TP (0, 0)) := block_set hE 0 _
      have hc1 : (w30.setCell ⟨gg, 0, none⟩ (.slice A29 (dg N.val).length c29)).cell? ⟨gg, 1, none⟩ = some (.slice none 0 0) := cell_of hE1 1 _ rfl
      have hf1 : (w30.setCell ⟨gg, 0, none⟩ (.slice A29 (dg N.val).length c29)).frozen? ⟨gg, 1, none⟩ = false := frozen_of_row _ _ _ _ _ hE1
      have hE2 : ((w30.setCell ⟨gg, 0, none⟩ (.slice A29 (dg N.val).length c29)).setCell ⟨gg, 1, none⟩ (.slice A1 (dg p.y.val).length c1)).heap[gg]? = some (.cells (ptA A29 c29 N A1 c1 p.y) TP (0, 0)) := block_set hE1 1 _
      have HBx := hid ((hB9.setCell (p := ⟨gg, 0, none⟩) HGW.out (.slice A29 (dg N.val).length c29)).setCell (p := ⟨gg, 1, none⟩) HGW.out (.slice A1 (dg p.y.val).length c1))
      have HS3 : Hid (Sq ((w30.setCell ⟨gg, 0, none⟩ (.slice A29 (dg N.val).length c29)).setCell ⟨gg, 1, none⟩ (.slice A1 (dg p.y.val).length c1)) w30.heap.size A29 c29 (ivs (dg N.val))) := hid ((hS3.far (ivs_int _) hE NoInt.two 0 _).far (ivs_int _) hE1 NoInt.two 1 _)
      have HS4 : Hid (Sq ((w30.setCell ⟨gg, 0, none⟩ (.slice A29 (dg N.val).length c29)).setCell ⟨gg, 1, none⟩ (.slice A1 (dg p.y.val).length c1)) w30.heap.size A1 c1 (ivs (dg p.y.val))) := hid ((hS4.far (ivs_int _) hE NoInt.two 0 _).far (ivs_int _) hE1 NoInt.two 1 _)
      have HE2 := hid hE2
      clear hE hE1 hE2 hB9 hS3 hS4 S30
      rw [← hgg]
      clear hgg
      have HWXx := hid HWX
      clear HWX
      go_wp2
      refine bodyPost_ret (v := .agg (ptA A29 c29 N A1 c1 p.y)) (results_cell_row rfl _ _ gg TP (ptA A29 c29 N A1 c1 p.y) (0, 0) _ rfl HE2.out Try.underlying49 rfl infoP) rfl ⟨A29, c29, A1, c1, by rw [← HWXx.out], ?_, ?_, HBx.out⟩
      · rw [size_setC, size_setC, ← HWXx.out]; exact HS3.out
      · rw [size_setC, size_setC]; exact HS4.out
  · rw [if_neg hqs] at HWX
    have hd : decide (Q = s) = false := decide_eq_false hqs
    clear hqs
    rw [hd]
    clear hd
    go_upto_region 9 with fail
    refine wpLA_start ?_
    refine wpLA_take (.slice A16 ((dg (X1.val)).length) c16) (yG_val _ (by rfl) (fun w' _ => by (go_simp; try rfl))) ?_
    (try simp only [Act.put, List.getElem_toArray, List.getElem_cons_succ, List.getElem_cons_zero, List.setIfInBounds_toArray, List.set_cons_zero, List.set_cons_succ])
    refine wpLA_big (2) (by rfl) (fun w' => by go_simp) (fun w' hb => K2.out w') ?_
    intro A22 c22 w22 hb hs
    have S22 : Hid (St w w22 [(w.heap.size, #[.slice none 0 0, .slice none 0 0], TP)] [(A22, c22, ivs (dg (2))), (A18, c18, ivs (dg (Q.val))), (A16, c16, ivs (dg (X1.val))), (A15, c15, bvs (B8)), (A13, c13, ivs (dg f4)), (B13, d13, ivs (dg r4)), (A12, c12, ivs (dg (4))), (A11, c11, ivs (dg (Pn))), (A9, c9, ivs (dg e8)), (B9, d9, ivs (dg r8)), (A8, c8, ivs (dg (8))), (A7, c7, ivs (dg (P3))), (A6, c6, ivs (dg (3))), (A5, c5, ivs (dg (Pn))), (A3, c3, ivs (dg (s.val))), (A1, c1, ivs (dg (p.y.val))), ((some ⟨g, 0, none⟩), cl, bvs (a ++ [y']))]) := hid ((S19.out.on hb).more hs)
    clear hb hs S19
    (try simp only [Act.put, List.getElem_toArray, List.getElem_cons_succ, List.getElem_cons_zero, List.setIfInBounds_toArray, List.set_cons_zero, List.set_cons_succ])
    refine wpLA_take (.slice A13 ((dg f4).length) c13) (yG_val _ (by rfl) (fun w' _ => by (go_simp; try rfl))) ?_
    (try simp only [Act.put, List.getElem_toArray, List.getElem_cons_succ, List.getElem_cons_zero, List.setIfInBounds_toArray, List.set_cons_zero, List.set_cons_succ])
    refine wpLA_bytes (B4) (by rfl) (fun w' => by go_simp) (fun w' hb => KB4.out _ _ w' (S22.out.on hb).sq.2.2.2.2.1) ?_
    intro A23 c23 w23 hb hs
    have S23 : Hid (St w w23 [(w.heap.size, #[.slice none 0 0, .slice none 0 0], TP)] [(A23, c23, bvs (B4)), (A22, c22, ivs (dg (2))), (A18, c18, ivs (dg (Q.val))), (A16, c16, ivs (dg (X1.val))), (A15, c15, bvs (B8)), (A13, c13, ivs (dg f4)), (B13, d13, ivs (dg r4)), (A12, c12, ivs (dg (4))), (A11, c11, ivs (dg (Pn))), (A9, c9, ivs (dg e8)), (B9, d9, ivs (dg r8)), (A8, c8, ivs (dg (8))), (A7, c7, ivs (dg (P3))), (A6, c6, ivs (dg (3))), (A5, c5, ivs (dg (Pn))), (A3, c3, ivs (dg (s.val))), (A1, c1, ivs (dg (p.y.val))), ((some ⟨g, 0, none⟩), cl, bvs (a ++ [y']))]) := hid ((S22.out.on hb).more hs)
    clear hb hs S22
    (try simp only [Act.put, List.getElem_toArray, List.getElem_cons_succ, List.getElem_cons_zero, List.setIfInBounds_toArray, List.set_cons_zero, List.set_cons_succ])
    refine wpLA_big (I1.val) (by rfl) (fun w' => by go_simp) (fun w' hb => KW2.out _ _ _ _ w' (S23.out.on hb).sq.2.1 (S23.out.on hb).sq.1) ?_
    intro A24 c24 w24 hb hs
    have S24 : Hid (St w w24 [(w.heap.size, #[.slice none 0 0, .slice none 0 0], TP)] [(A24, c24, ivs (dg (I1.val))), (A23, c23, bvs (B4)), (A22, c22, ivs (dg (2))), (A18, c18, ivs (dg (Q.val))), (A16, c16, ivs (dg (X1.val))), (A15, c15, bvs (B8)), (A13, c13, ivs (dg f4)), (B13, d13, ivs (dg r4)), (A12, c12, ivs (dg (4))), (A11, c11, ivs (dg (Pn))), (A9, c9, ivs (dg e8)), (B9, d9, ivs (dg r8)), (A8, c8, ivs (dg (8))), (A7, c7, ivs (dg (P3))), (A6, c6, ivs (dg (3))), (A5, c5, ivs (dg (Pn))), (A3, c3, ivs (dg (s.val))), (A1, c1, ivs (dg (p.y.val))), ((some ⟨g, 0, none⟩), cl, bvs (a ++ [y']))]) := hid ((S23.out.on hb).more hs)
    clear hb hs S23
    (try simp only [Act.put, List.getElem_toArray, List.getElem_cons_succ, List.getElem_cons_zero, List.setIfInBounds_toArray, List.set_cons_zero, List.set_cons_succ])
    refine wpLA_big (X2.val) (by rfl) (fun w' => by go_simp) (fun w' hb => KX2.out w' _ _ _ _ (S24.out.on hb).sq.2.2.2.2.1 (S24.out.on hb).sq.1) ?_
    intro A25 c25 w25 hb hs
    have S25 : Hid (St w w25 [(w.heap.size, #[.slice none 0 0, .slice none 0 0], TP)] [(A25, c25, ivs (dg (X2.val))), (A24, c24, ivs (dg (I1.val))), (A23, c23, bvs (B4)), (A22, c22, ivs (dg (2))), (A18, c18, ivs (dg (Q.val))), (A16, c16, ivs (dg (X1.val))), (A15, c15, bvs (B8)), (A13, c13, ivs (dg f4)), (B13, d13, ivs (dg r4)), (A12, c12, ivs (dg (4))), (A11, c11, ivs (dg (Pn))), (A9, c9, ivs (dg e8)), (B9, d9, ivs (dg r8)), (A8, c8, ivs (dg (8))), (A7, c7, ivs (dg (P3))), (A6, c6, ivs (dg (3))), (A5, c5, ivs (dg (Pn))), (A3, c3, ivs (dg (s.val))), (A1, c1, ivs (dg (p.y.val))), ((some ⟨g, 0, none⟩), cl, bvs (a ++ [y']))]) := hid ((S24.out.on hb).more hs)
    clear hb hs S24
    (try simp only [Act.put, List.getElem_toArray, List.getElem_cons_succ, List.getElem_cons_zero, List.setIfInBounds_toArray, List.set_cons_zero, List.set_cons_succ])
    refine wpLA_take (.slice A25 ((dg (X2.val)).length) c25) (yG_val _ (by rfl) (fun w' _ => by (go_simp; try rfl))) ?_
    (try simp only [Act.put, List.getElem_toArray, List.getElem_cons_succ, List.getElem_cons_zero, List.setIfInBounds_toArray, List.set_cons_zero, List.set_cons_succ])
    refine wpLA_end ?_
    intro w26 hb
    have S26 := hid (S25.out.on hb)
    clear hb S25
    have HCW : Hid (w26.cell? ⟨bk, bo + 31, none⟩ = some (.int .u8 (z.toNat : Int))) := hid (by rw [S26.out.below.cell (p := ⟨bk, bo + 31, none⟩) HBK.out]; exact HCELL.out)
    obtain ⟨o, ho⟩ : ∃ b, b = decide (X2.val % 2 = 1) := ⟨_, rfl⟩
    obtain ⟨h, hh⟩ : ∃ b, b = decide (128 ≤ z.toNat) := ⟨_, rfl⟩
    have HO := hid ho; have HH := hid hh
    have KO1 : Hid (∀ A c B W, Sq W B A c (ivs (dg X2.val)) → Calls Try.prog 65 #[.slice A (dg X2.val).length c] W fun e w1 => e = .returned (.bool o) ∧ Below W.heap.size W w1) := hid fun A c B W hq => by rw [ho]; exact KOD.out X2 A c B W hq
    clear ho hh
    go_upto_region 10 with fail
    refine wp_region_grA 6 (by kernel_rfl) (by decide) ?_
    refine wpGrA_take (i := 0) (.slice A25 ((dg (X2.val)).length) c25) rfl (by kernel_rfl) (by kernel_rfl) (fun _ _ _ h => h) (yG_val _ (by rfl) (fun w' _ => by (go_simp; try rfl))) ?_
    (try simp only [Act.put, List.getElem_toArray, List.getElem_cons_succ, List.getElem_cons_zero, List.setIfInBounds_toArray, List.set_cons_zero, List.set_cons_succ])
    refine wpGrA_take (i := 2) (.slice (some ⟨bk, bo, none⟩) 32 c) rfl (by kernel_rfl) (by kernel_rfl) (fun _ _ _ h => h) (yG_val _ (by rfl) (fun w' _ => by (go_simp; try rfl))) ?_
    (try simp only [Act.put, List.getElem_toArray, List.getElem_cons_succ, List.getElem_cons_zero, List.setIfInBounds_toArray, List.set_cons_zero, List.set_cons_succ])
    refine wpGrA_take (i := 1) (.bool o) rfl (by kernel_rfl) (by kernel_rfl) (fun _ _ _ h => h) (yG_call (by rfl) (fun w' => by go_simp) (fun w' hb => KO1.out _ _ _ w' (S26.out.on hb).sq.1)) ?_
    (try simp only [Act.put, List.getElem_toArray, List.getElem_cons_succ, List.getElem_cons_zero, List.setIfInBounds_toArray, List.set_cons_zero, List.set_cons_succ])
    refine wpGrA_take (i := 3) (.pointer (some ⟨bk, (bo + 31), none⟩)) rfl (by kernel_rfl) (by kernel_rfl) (fun _ _ _ h => h) (yG_val _ (by rfl) (fun w' _ => by (go_simp; try rfl))) ?_
    (try simp only [Act.put, List.getElem_toArray, List.getElem_cons_succ, List.getElem_cons_zero, List.setIfInBounds_toArray, List.set_cons_zero, List.set_cons_succ])
    refine wpGrA_take (i := 4) (.int .u8 ((z.toNat : Nat))) rfl (by kernel_rfl) (by kernel_rfl) (fun _ _ _ h => h) (yG_val _ (by rfl) (fun w' _ => by (have hcw : w'.cell? ⟨bk, bo + 31, none⟩ = some (.int .u8 (z.toNat : Int)) := (by rw [Below.cell (p := ⟨bk, bo + 31, none⟩) (by assumption) (Nat.lt_of_lt_of_le HBK.out S26.out.below.size)]; exact HCW.out); go_simp; try rfl))) ?_
    (try simp only [Act.put, List.getElem_toArray, List.getElem_cons_succ, List.getElem_cons_zero, List.setIfInBounds_toArray, List.set_cons_zero, List.set_cons_succ])
    refine wpGrA_take (i := 5) (.bool h) rfl (by kernel_rfl) (by kernel_rfl) (fun _ _ _ h => h) (yG_val _ (by rfl) (fun w' _ => by (rw [HH.out]; go_simp; try omega))) ?_
    (try simp only [Act.put, List.getElem_toArray, List.getElem_cons_succ, List.getElem_cons_zero, List.setIfInBounds_toArray, List.set_cons_zero, List.set_cons_succ])
    refine wpGrA_end (by kernel_rfl) ?_
    intro w27 hb
    have S27 := hid (S26.out.on hb)
    clear hb S26
    refine wpLA_here ?_
    refine wpLA_take (.bool (o != h)) (yG_val _ (by rfl) (fun w' _ => by (go_simp; try (generalize o = x; generalize h = y; cases x <;> cases y <;> rfl)))) ?_
    (try simp only [Act.put, List.getElem_toArray, List.getElem_cons_succ, List.getElem_cons_zero, List.setIfInBounds_toArray, List.set_cons_zero, List.set_cons_succ])
    refine wpLA_end ?_
    intro w28 hb
    have S28 := hid (S27.out.on hb)
    clear hb S27
    have hox : o = decide (X2.val % 2 = 1) := HO.out
    have hhx : h = decide (p.x.val % 2 = 1) := by
      rw [HH.out, HBZ.out]
      by_cases h128 : 128 ≤ z.toNat <;> simp [h128]
    rw [← hox, ← hhx] at HWX
    clear hox hhx HO HH HCW KO1 KOD KS KQ KX2
    by_cases hoh : o = h
    · rw [if_pos hoh] at HWX
      have hd : (o != h) = false := by rw [hoh]; cases h <;> rfl
      rw [hd]
      clear hd hoh
      have hE : w28.heap[w.heap.size]? = some (.cells #[.slice none 0 0, .slice none 0 0] TP (0, 0)) := S28.out.cl.1
      have hS3 : Sq w28 w28.heap.size A25 c25 (ivs (dg X2.val)) := S28.out.sq.1
      have hS4 : Sq w28 w28.heap.size A1 c1 (ivs (dg p.y.val)) := S28.out.sq.2.2.2.2.2.2.2.2.2.2.2.2.2.2.2.2.2.2.1
      have hB9 := S28.out.below
      obtain ⟨gg, hgg⟩ : ∃ gg, gg = w.heap.size := ⟨_, rfl⟩
      have HGW : Hid (w.heap.size ≤ gg) := hid (by omega)
      rw [← hgg] at hE
      have hc0 : w28.cell? ⟨gg, 0, none⟩ = some (.slice none 0 0) := cell_of hE 0 _ rfl
      have hf0 : w28.frozen? ⟨gg, 0, none⟩ = false := frozen_of_row _ _ _ _ _ hE
      have hE1 : (w28.setCell ⟨gg, 0, none⟩ (.slice A25 (dg X2.val).length c25)).heap[gg]? = some (.cells #[(.slice A25 (dg X2.val).length c25), .slice none 0 0] TP (0, 0)) := block_set hE 0 _
      have hc1 : (w28.setCell ⟨gg, 0, none⟩ (.slice A25 (dg X2.val).length c25)).cell? ⟨gg, 1, none⟩ = some (.slice none 0 0) := cell_of hE1 1 _ rfl
      have hf1 : (w28.setCell ⟨gg, 0, none⟩ (.slice A25 (dg X2.val).length c25)).frozen? ⟨gg, 1, none⟩ = false := frozen_of_row _ _ _ _ _ hE1
      have hE2 : ((w28.setCell ⟨gg, 0, none⟩ (.slice A25 (dg X2.val).length c25)).setCell ⟨gg, 1, none⟩ (.slice A1 (dg p.y.val).length c1)).heap[gg]? = some (.cells (ptA A25 c25 X2 A1 c1 p.y) TP (0, 0)) := block_set hE1 1 _
      have HBx := hid ((hB9.setCell (p := ⟨gg, 0, none⟩) HGW.out (.slice A25 (dg X2.val).length c25)).setCell (p := ⟨gg, 1, none⟩) HGW.out (.slice A1 (dg p.y.val).length c1))
      have HS3 : Hid (Sq ((w28.setCell ⟨gg, 0, none⟩ (.slice A25 (dg X2.val).length c25)).setCell ⟨gg, 1, none⟩ (.slice A1 (dg p.y.val).length c1)) w28.heap.size A25 c25 (ivs (dg X2.val))) := hid ((hS3.far (ivs_int _) hE NoInt.two 0 _).far (ivs_int _) hE1 NoInt.two 1 _)
      have HS4 : Hid (Sq ((w28.setCell ⟨gg, 0, none⟩ (.slice A25 (dg X2.val).length c25)).setCell ⟨gg, 1, none⟩ (.slice A1 (dg p.y.val).length c1)) w28.heap.size A1 c1 (ivs (dg p.y.val))) := hid ((hS4.far (ivs_int _) hE NoInt.two 0 _).far (ivs_int _) hE1 NoInt.two 1 _)
      have HE2 := hid hE2
      clear hE hE1 hE2 hB9 hS3 hS4 S28
      rw [← hgg]
      clear hgg
      have HWXx := hid HWX
      clear HWX
      go_wp2
      refine bodyPost_ret (v := .agg (ptA A25 c25 X2 A1 c1 p.y)) (results_cell_row rfl _ _ gg TP (ptA A25 c25 X2 A1 c1 p.y) (0, 0) _ rfl HE2.out Try.underlying49 rfl infoP) rfl ⟨A25, c25, A1, c1, by rw [← HWXx.out], ?_, ?_, HBx.out⟩
      · rw [size_setC, size_setC, ← HWXx.out]; exact HS3.out
      · rw [size_setC, size_setC]; exact HS4.out
    · rw [if_neg hoh] at HWX
      have hd : (o != h) = true := by cases o <;> cases h <;> first | rfl | exact absurd rfl hoh
      rw [hd]
      clear hd hoh
      obtain ⟨N, hN⟩ : ∃ x : FF, x = 0 - X2 := ⟨_, rfl⟩
      rw [← hN] at HWX
      have KNg := subF0 hN
      clear hN
      go_upto_region 11 with fail
      refine wpLA_start ?_
      refine wpLA_take (.slice A25 ((dg (X2.val)).length) c25) (yG_val _ (by rfl) (fun w' _ => by (go_simp; try rfl))) ?_
      (try simp only [Act.put, List.getElem_toArray, List.getElem_cons_succ, List.getElem_cons_zero, List.setIfInBounds_toArray, List.set_cons_zero, List.set_cons_succ])
      refine wpLA_big (N.val) (by rfl) (fun w' => by go_simp) (fun w' hb => KNg.out w' _ _ (S28.out.on hb).sq.1) ?_
      intro A31 c31 w31 hb hs
      have S31 : Hid (St w w31 [(w.heap.size, #[.slice none 0 0, .slice none 0 0], TP)] [(A31, c31, ivs (dg (N.val))), (A25, c25, ivs (dg (X2.val))), (A24, c24, ivs (dg (I1.val))), (A23, c23, bvs (B4)), (A22, c22, ivs (dg (2))), (A18, c18, ivs (dg (Q.val))), (A16, c16, ivs (dg (X1.val))), (A15, c15, bvs (B8)), (A13, c13, ivs (dg f4)), (B13, d13, ivs (dg r4)), (A12, c12, ivs (dg (4))), (A11, c11, ivs (dg (Pn))), (A9, c9, ivs (dg e8)), (B9, d9, ivs (dg r8)), (A8, c8, ivs (dg (8))), (A7, c7, ivs (dg (P3))), (A6, c6, ivs (dg (3))), (A5, c5, ivs (dg (Pn))), (A3, c3, ivs (dg (s.val))), (A1, c1, ivs (dg (p.y.val))), ((some ⟨g, 0, none⟩), cl, bvs (a ++ [y']))]) := hid ((S28.out.on hb).more hs)
      clear hb hs S28
      (try simp only [Act.put, List.getElem_toArray, List.getElem_cons_succ, List.getElem_cons_zero, List.setIfInBounds_toArray, List.set_cons_zero, List.set_cons_succ])
      refine wpLA_take (.slice A31 ((dg (N.val)).length) c31) (yG_val _ (by rfl) (fun w' _ => by (go_simp; try rfl))) ?_
      (try simp only [Act.put, List.getElem_toArray, List.getElem_cons_succ, List.getElem_cons_zero, List.setIfInBounds_toArray, List.set_cons_zero, List.set_cons_succ])
      refine wpLA_end ?_
      intro w32 hb
      have S32 := hid (S31.out.on hb)
      clear hb S31
      have hE : w32.heap[w.heap.size]? = some (.cells #[.slice none 0 0, .slice none 0 0] TP (0, 0)) := S32.out.cl.1
      have hS3 : Sq w32 w32.heap.size A31 c31 (ivs (dg N.val)) := S32.out.sq.1
      have hS4 : Sq w32 w32.heap.size A1 c1 (ivs (dg p.y.val)) := S32.out.sq.2.2.2.2.2.2.2.2.2.2.2.2.2.2.2.2.2.2.2.1
      have hB9 := S32.out.below
      obtain ⟨gg, hgg⟩ : ∃ gg, gg = w.heap.size := ⟨_, rfl⟩
      have HGW : Hid (w.heap.size ≤ gg) := hid (by omega)
      rw [← hgg] at hE
      have hc0 : w32.cell? ⟨gg, 0, none⟩ = some (.slice none 0 0) := cell_of hE 0 _ rfl
      have hf0 : w32.frozen? ⟨gg, 0, none⟩ = false := frozen_of_row _ _ _ _ _ hE
      have hE1 : (w32.setCell ⟨gg, 0, none⟩ (.slice A31 (dg N.val).length c31)).heap[gg]? = some (.cells #[(.slice A31 (dg N.val).length c31), .slice none 0 0] TP (0, 0)) := block_set hE 0 _
      have hc1 : (w32.setCell ⟨gg, 0, none⟩ (.slice A31 (dg N.val).length c31)).cell? ⟨gg, 1, none⟩ = some (.slice none 0 0) := cell_of hE1 1 _ rfl
      have hf1 : (w32.setCell ⟨gg, 0, none⟩ (.slice A31 (dg N.val).length c31)).frozen? ⟨gg, 1, none⟩ = false := frozen_of_row _ _ _ _ _ hE1
      have hE2 : ((w32.setCell ⟨gg, 0, none⟩ (.slice A31 (dg N.val).length c31)).setCell ⟨gg, 1, none⟩ (.slice A1 (dg p.y.val).length c1)).heap[gg]? = some (.cells (ptA A31 c31 N A1 c1 p.y) TP (0, 0)) := block_set hE1 1 _
      have HBx := hid ((hB9.setCell (p := ⟨gg, 0, none⟩) HGW.out (.slice A31 (dg N.val).length c31)).setCell (p := ⟨gg, 1, none⟩) HGW.out (.slice A1 (dg p.y.val).length c1))
      have HS3 : Hid (Sq ((w32.setCell ⟨gg, 0, none⟩ (.slice A31 (dg N.val).length c31)).setCell ⟨gg, 1, none⟩ (.slice A1 (dg p.y.val).length c1)) w32.heap.size A31 c31 (ivs (dg N.val))) := hid ((hS3.far (ivs_int _) hE NoInt.two 0 _).far (ivs_int _) hE1 NoInt.two 1 _)
      have HS4 : Hid (Sq ((w32.setCell ⟨gg, 0, none⟩ (.slice A31 (dg N.val).length c31)).setCell ⟨gg, 1, none⟩ (.slice A1 (dg p.y.val).length c1)) w32.heap.size A1 c1 (ivs (dg p.y.val))) := hid ((hS4.far (ivs_int _) hE NoInt.two 0 _).far (ivs_int _) hE1 NoInt.two 1 _)
      have HE2 := hid hE2
      clear hE hE1 hE2 hB9 hS3 hS4 S32
      rw [← hgg]
      clear hgg
      have HWXx := hid HWX
      clear HWX
      go_wp2
      refine bodyPost_ret (v := .agg (ptA A31 c31 N A1 c1 p.y)) (results_cell_row rfl _ _ gg TP (ptA A31 c31 N A1 c1 p.y) (0, 0) _ rfl HE2.out Try.underlying49 rfl infoP) rfl ⟨A31, c31, A1, c1, by rw [← HWXx.out], ?_, ?_, HBx.out⟩
      · rw [size_setC, size_setC, ← HWXx.out]; exact HS3.out
      · rw [size_setC, size_setC]; exact HS4.out
end Go.Proofs.Ytealegfmmeklcaa
