/-
  Texts of this claim in one file: NdP, NdQ, NdR.
-/
import Derived.Test.YtlgcdddgahjknaaPk15
import Derived.Test.YtlgcdddgahjknaaPk12
section
namespace Go.Proofs.Ytlgcdddgahjknaa
open Go Go.RowKit
set_option linter.unusedVariables false
set_option linter.unusedSimpArgs false
theorem beNum_two (b : Nat) (l : List UInt8) : beNum b l = b * 256 ^ l.length + beNum 0 l := by
  induction l generalizing b with
  | nil => simp [beNum]
  | cons x l ih =>
    rw [beNum_cons, beNum_cons, ih, ih (0 * 256 + x.toNat), List.length_cons, Nat.pow_succ, Nat.zero_mul, Nat.zero_add, Nat.add_mul, Nat.mul_assoc, Nat.mul_comm 256, Nat.add_assoc]
theorem be_num (l : List UInt8) (a : Nat) : beBytes l.length (beNum a l) = l := by
  induction l generalizing a with
  | nil => rfl
  | cons x l ih =>
    rw [beNum_cons, List.length_cons]
    show UInt8.ofNat (beNum (a * 256 + x.toNat) l / 256 ^ l.length) :: beBytes l.length (beNum (a * 256 + x.toNat) l) = x :: l
    rw [ih]
    have h1 := beNum_two (a * 256 + x.toNat) l
    have h2 := beNum_lt 0 l
    rw [Nat.zero_add, Nat.one_mul] at h2
    have h3 : beNum (a * 256 + x.toNat) l / 256 ^ l.length = a * 256 + x.toNat := by
      rw [h1, Nat.mul_comm, Nat.mul_add_div (Nat.two_pow_pos 8 |> fun _ => Nat.pow_pos (by decide)), Nat.div_eq_of_lt h2, Nat.add_zero]
    rw [h3]
    congr 1
    apply UInt8.toNat_inj.1
    rw [UInt8.toNat_ofNat']
    have := x.toNat_lt
    omega
theorem lenAt_put {ys : List UInt8} (h : (lenAt ys).2.2 = 0) : ys = lenBytes (lenAt ys).1 ++ ys.drop (lenAt ys).2.1 := by
  rcases ys with _ | ⟨x, l⟩
  · cases h
  · have hx := x.toNat_lt
    have hl : lenAt (x :: l) = if x.toNat < 64 then (x.toNat, 1, 0) else if 192 ≤ x.toNat then (0, 0, 3) else if x.toNat < 128 then
      if l.length < 1 then (0, 0, 4) else if lenSize (beNum (x.toNat % 64) (l.take 1)) = 2 then (beNum (x.toNat % 64) (l.take 1), 2, 0) else (0, 0, 3)
      else if l.length < 3 then (0, 0, 4) else if lenSize (beNum (x.toNat % 64) (l.take 3)) = 4 then (beNum (x.toNat % 64) (l.take 3), 4, 0) else (0, 0, 3) := rfl
    by_cases h1 : x.toNat < 64
    · rw [if_pos h1] at hl
      rw [hl]
      show x :: l = lenBytes x.toNat ++ l
      unfold lenBytes
      rw [if_pos h1]
      have := be_num [x] 0
      rw [show beNum 0 [x] = x.toNat by simp [beNum]] at this
      rw [show beBytes 1 x.toNat = [x] from this]
      rfl
    · rw [if_neg h1] at hl
      by_cases h2 : 192 ≤ x.toNat
      · rw [if_pos h2] at hl; rw [hl] at h; cases h
      · rw [if_neg h2] at hl
        by_cases h3 : x.toNat < 128
        · rw [if_pos h3] at hl
          by_cases h4 : l.length < 1
          · rw [if_pos h4] at hl; rw [hl] at h; cases h
          · rw [if_neg h4] at hl
            by_cases h5 : lenSize (beNum (x.toNat % 64) (l.take 1)) = 2
            · rw [if_pos h5] at hl
              rw [hl]
              obtain ⟨y, r, rfl⟩ : ∃ y r, l = y :: r := by
                rcases l with _ | ⟨y, r⟩
                · simp at h4
                · exact ⟨y, r, rfl⟩
              have hn : beNum (x.toNat % 64) ((y :: r).take 1) = (x.toNat % 64) * 256 + y.toNat := by simp [beNum]
              rw [hn] at h5 ⊢
              show x :: y :: r = lenBytes ((x.toNat % 64) * 256 + y.toNat) ++ r
              have hy := y.toNat_lt
              have hc : ¬ (x.toNat % 64) * 256 + y.toNat < 64 ∧ (x.toNat % 64) * 256 + y.toNat < 16384 := by
                unfold lenSize at h5
                split at h5
                · cases h5
                · split at h5
                  · next ha hb => exact ⟨ha, hb⟩
                  · cases h5
              unfold lenBytes
              rw [if_neg hc.1, if_pos hc.2]
              have := be_num [x, y] 0
              rw [show beNum 0 [x, y] = 16384 + ((x.toNat % 64) * 256 + y.toNat) by simp [beNum]; omega] at this
              rw [show beBytes 2 (16384 + ((x.toNat % 64) * 256 + y.toNat)) = [x, y] from this]
              rfl
            · rw [if_neg h5] at hl; rw [hl] at h; cases h
        · rw [if_neg h3] at hl
          by_cases h4 : l.length < 3
          · rw [if_pos h4] at hl; rw [hl] at h; cases h
          · rw [if_neg h4] at hl
            by_cases h5 : lenSize (beNum (x.toNat % 64) (l.take 3)) = 4
            · rw [if_pos h5] at hl
              rw [hl]
              obtain ⟨y, z, v, r, rfl⟩ : ∃ y z v r, l = y :: z :: v :: r := by
                rcases l with _ | ⟨y, _ | ⟨z, _ | ⟨v, r⟩⟩⟩
                · simp at h4
                · simp at h4
                · simp at h4
                · exact ⟨y, z, v, r, rfl⟩
              have hn : beNum (x.toNat % 64) ((y :: z :: v :: r).take 3) = (((x.toNat % 64) * 256 + y.toNat) * 256 + z.toNat) * 256 + v.toNat := by simp [beNum]
              rw [hn] at h5 ⊢
              have hy := y.toNat_lt; have hz := z.toNat_lt; have hv := v.toNat_lt
              have hc : ¬ (((x.toNat % 64) * 256 + y.toNat) * 256 + z.toNat) * 256 + v.toNat < 64 ∧ ¬ (((x.toNat % 64) * 256 + y.toNat) * 256 + z.toNat) * 256 + v.toNat < 16384 := by
                unfold lenSize at h5
                split at h5
                · cases h5
                · split at h5
                  · cases h5
                  · next ha hb => exact ⟨ha, hb⟩
              show x :: y :: z :: v :: r = lenBytes ((((x.toNat % 64) * 256 + y.toNat) * 256 + z.toNat) * 256 + v.toNat) ++ r
              unfold lenBytes
              rw [if_neg hc.1, if_neg hc.2]
              have := be_num [x, y, z, v] 0
              rw [show beNum 0 [x, y, z, v] = 2147483648 + ((((x.toNat % 64) * 256 + y.toNat) * 256 + z.toNat) * 256 + v.toNat) by simp [beNum]; omega] at this
              rw [show beBytes 4 (2147483648 + ((((x.toNat % 64) * 256 + y.toNat) * 256 + z.toNat) * 256 + v.toNat)) = [x, y, z, v] from this]
              rfl
            · rw [if_neg h5] at hl; rw [hl] at h; cases h
/-- What is taken as a vector stands there as its bytes. -/
theorem vec_put {xs : List UInt8} {i : Nat} (h : (vecAt (xs.drop i)).2.2 = 0) : xs.drop i = vecBytes (vecAt (xs.drop i)).1 ++ xs.drop (vecN xs i) := by
  unfold vecN
  rw [if_pos h]
  obtain ⟨ys, hys⟩ : ∃ ys, ys = xs.drop i := ⟨_, rfl⟩
  have hd : xs.drop (i + (lenAt ys).2.1 + (lenAt ys).1) = ys.drop ((lenAt ys).2.1 + (lenAt ys).1) := by rw [hys, List.drop_drop, Nat.add_assoc]
  rw [← hys, hd]
  rw [← hys] at h
  unfold vecAt at h ⊢
  split at h
  · next h0 => exact absurd h h0
  · next h0 =>
    split at h
    · cases h
    · next h1 =>
      rw [if_neg h0, if_neg h1]
      have hp := lenAt_put (ys := ys) (by omega)
      have hb := lenAt_bounds ys
      show ys = vecBytes ((ys.drop (lenAt ys).2.1).take (lenAt ys).1) ++ ys.drop ((lenAt ys).2.1 + (lenAt ys).1)
      unfold vecBytes
      rw [List.length_take, List.length_drop, Nat.min_eq_left (by omega), List.append_assoc, ← List.drop_drop, List.take_append_drop]
      exact hp
/-- What stands there as a vector's bytes is taken. -/
theorem vec_back {xs : List UInt8} {i : Nat} {v R : List UInt8} (h : xs.drop i = vecBytes v ++ R) (hv : v.length < 1073741824) : (vecAt (xs.drop i)).1 = v ∧ (vecAt (xs.drop i)).2.2 = 0 ∧ vecN xs i = i + (vecBytes v).length ∧ xs.drop (vecN xs i) = R := by
  have h1 : vecAt (xs.drop i) = (v, R, 0) := by rw [h]; exact vecAt_back v R hv
  have h2 : lenAt (xs.drop i) = (v.length, lenSize v.length, 0) := by rw [h]; unfold vecBytes; rw [List.append_assoc]; exact lenAt_lenBytes _ _ hv
  have h3 : vecN xs i = i + (vecBytes v).length := by
    unfold vecN
    rw [h1, h2, if_pos rfl]
    unfold vecBytes
    rw [List.length_append, lenBytes_length]
    show i + lenSize v.length + v.length = _
    omega
  refine ⟨by rw [h1], by rw [h1], h3, ?_⟩
  rw [h3, ← List.drop_drop, h, List.drop_left]
end Go.Proofs.Ytlgcdddgahjknaa
end
section
namespace Go.Proofs.Ytlgcdddgahjknaa
open Go Go.RowKit
set_option linter.unusedVariables false
set_option linter.unusedSimpArgs false
theorem src_of {xs : List UInt8} {p r : Nat} {R : List UInt8} (h : xs.drop p = UInt8.ofNat r :: R) (hr : r < 256) : srcJ xs p = r ∧ p < xs.length ∧ xs.drop (p + 1) = R := by
  have h1 : p < xs.length := by
    apply Nat.lt_of_not_ge
    intro hc
    rw [List.drop_eq_nil_of_le hc] at h
    cases h
  refine ⟨?_, h1, ?_⟩
  · have h0 := srcJ_at xs p 0
    rw [Nat.add_zero] at h0
    rw [h0, h]
    show (UInt8.ofNat r).toNat = r
    rw [UInt8.toNat_ofNat']
    omega
  · rw [← List.drop_drop, h]; rfl
theorem src_put {xs : List UInt8} {p : Nat} (h : p < xs.length) : xs.drop p = UInt8.ofNat (srcJ xs p) :: xs.drop (p + 1) := by
  rw [List.drop_eq_getElem_cons h]
  congr 1
  apply UInt8.toNat_inj.1
  rw [UInt8.toNat_ofNat']
  have h0 : srcJ xs p = xs[p].toNat := by unfold srcJ; rw [List.getD_eq_getElem?_getD, List.getElem?_eq_getElem h]; rfl
  have := srcJ_lt xs p
  omega
theorem leafB_len {x : Lf} (h : leafB x = true) : x.box.length = 32 ∧ x.sign.length = 32 ∧ (0 < x.ident.length ∧ x.ident.length ≤ 64) ∧ (0 < x.src ∧ x.src < 4) ∧ (x.par.length = 0 ∨ (x.src = 3 ∧ x.par.length = 32)) ∧ x.sig.length = 64 := by
  unfold leafB leafN at h
  simp only [Bool.and_eq_true, Bool.or_eq_true, decide_eq_true_eq] at h
  obtain ⟨⟨⟨⟨⟨⟨⟨h0, h1⟩, h2⟩, h3⟩, h4⟩, h5⟩, h6⟩, h7⟩ := h
  exact ⟨h0, h1, ⟨h2, h3⟩, ⟨h4, h5⟩, h6, h7⟩
/-- A leaf's bytes give it back. -/
theorem tl_back {xs : List UInt8} {i : Nat} {x : Lf} {R : List UInt8} (h : xs.drop i = leafBy x ++ R) (hx : leafB x = true) : tlE xs i = 0 ∧ tlX xs i = x ∧ xs.drop (tlN xs i) = R ∧ tlN xs i = i + (leafBy x).length := by
  obtain ⟨n0, n1, n2, n3, n4, n5⟩ := leafB_len hx
  unfold leafBy aheadB at h
  simp only [List.append_assoc] at h
  obtain ⟨a1, a2, a3, a4⟩ := vec_back h (by omega)
  obtain ⟨b1, b2, b3, b4⟩ := vec_back a4 (by omega)
  obtain ⟨c1, c2, c3, c4⟩ := vec_back b4 (by omega)
  have e3 : errD xs i 3 = 0 := by
    have e1 : errD xs i 1 = 0 := by show (if (0 : Nat) = 0 then errJ xs i 0 else 0) = 0; rw [if_pos rfl]; exact a2
    have e2 : errD xs i 2 = 0 := by show (if errD xs i 1 = 0 then errJ xs i 1 else errD xs i 1) = 0; rw [if_pos e1]; exact b2
    show (if errD xs i 2 = 0 then errJ xs i 2 else errD xs i 2) = 0; rw [if_pos e2]; exact c2
  have hP : tlP xs i = vecN xs (vecN xs (vecN xs i)) := rfl
  have v0 : vecJ xs i 0 = x.box := a1
  have v1 : vecJ xs i 1 = x.sign := b1
  have v2 : vecJ xs i 2 = x.ident := c1
  obtain ⟨d1, d2, d3⟩ := src_of (r := x.src) c4 (by omega)
  rw [← hP] at d1 d2 d3 c4
  have hlen : (leafBy x).length = (vecBytes x.box).length + (vecBytes x.sign).length + (vecBytes x.ident).length + 1 + (if x.src = 3 then vecBytes x.par else []).length + (vecBytes x.sig).length := by
    unfold leafBy aheadB
    simp only [List.length_append, List.length_cons, List.length_nil]
    omega
  have hPn : tlP xs i = i + (vecBytes x.box).length + (vecBytes x.sign).length + (vecBytes x.ident).length := by rw [hP, c3, b3, a3]
  by_cases h3 : x.src = 3
  · rw [if_pos h3] at d3 hlen
    obtain ⟨f1, f2, f3, f4⟩ := vec_back d3 (by omega)
    obtain ⟨g1, g2, g3, g4⟩ := vec_back f4 (by omega)
    have hR : tlR xs i = vecN xs (tlP xs i + 1) := by unfold tlR; rw [d1, if_pos h3]; rfl
    have ep : errD xs (tlP xs i + 1) 1 = 0 := by show (if (0 : Nat) = 0 then errJ xs (tlP xs i + 1) 0 else 0) = 0; rw [if_pos rfl]; exact f2
    have eg : errD xs (tlR xs i) 1 = 0 := by rw [hR]; show (if (0 : Nat) = 0 then errJ xs (vecN xs (tlP xs i + 1)) 0 else 0) = 0; rw [if_pos rfl]; exact g2
    have hF : tlF xs i = x := by
      unfold tlF
      rw [v0, v1, v2, d1, if_pos h3, hR, show vecJ xs (tlP xs i + 1) 0 = x.par from f1, show vecJ xs (vecN xs (tlP xs i + 1)) 0 = x.sig from g1]
    have hE : tlE xs i = 0 := by
      unfold tlE
      rw [if_neg (by rw [e3]; simp), if_neg (by omega), if_neg (by rw [d1]; omega), if_neg (by rw [ep]; simp), if_neg (by rw [eg]; simp), hF, if_pos hx]
    refine ⟨hE, by unfold tlX; rw [if_pos hE, hF], ?_, ?_⟩
    · unfold tlN; rw [if_pos hE, hR]; exact g4
    · unfold tlN; rw [if_pos hE, hR]; show vecN xs (vecN xs (tlP xs i + 1)) = _; rw [g3, f3, hPn, hlen]; omega
  · rw [if_neg h3] at d3 hlen
    rw [List.nil_append] at d3
    obtain ⟨g1, g2, g3, g4⟩ := vec_back d3 (by omega)
    have hR : tlR xs i = tlP xs i + 1 := by unfold tlR; rw [d1, if_neg h3]
    have eg : errD xs (tlR xs i) 1 = 0 := by rw [hR]; show (if (0 : Nat) = 0 then errJ xs (tlP xs i + 1) 0 else 0) = 0; rw [if_pos rfl]; exact g2
    have hp : x.par = [] := List.eq_nil_of_length_eq_zero (by omega)
    have hF : tlF xs i = x := by
      unfold tlF
      rw [v0, v1, v2, d1, if_neg h3, hR, ← hp, show vecJ xs (tlP xs i + 1) 0 = x.sig from g1]
    have hE : tlE xs i = 0 := by
      unfold tlE
      rw [if_neg (by rw [e3]; simp), if_neg (by omega), if_neg (by rw [d1]; omega), if_neg (by rw [d1]; omega), if_neg (by rw [eg]; simp), hF, if_pos hx]
    refine ⟨hE, by unfold tlX; rw [if_pos hE, hF], ?_, ?_⟩
    · unfold tlN; rw [if_pos hE, hR]; exact g4
    · unfold tlN; rw [if_pos hE, hR]; show vecN xs (tlP xs i + 1) = _; rw [g3, hPn, hlen]; simp only [List.length_nil]; omega
/-- What is taken as a leaf stands there as its bytes. -/
theorem tl_put {xs : List UInt8} {i : Nat} (h : tlE xs i = 0) : leafB (tlX xs i) = true ∧ xs.drop i = leafBy (tlX xs i) ++ xs.drop (tlN xs i) := by
  have hX : tlX xs i = tlF xs i := by unfold tlX; rw [if_pos h]
  have hN : tlN xs i = vecN xs (tlR xs i) := by unfold tlN; rw [if_pos h]; rfl
  rw [hX, hN]
  unfold tlE at h
  split at h
  · next h1 => exact absurd h h1
  · next h1 =>
    split at h
    · cases h
    · next h2 =>
      split at h
      · cases h
      · next h3 =>
        split at h
        · next h4 => exact absurd h h4.2
        · next h4 =>
          split at h
          · next h5 => exact absurd h h5
          · next h5 =>
            split at h
            · next h6 =>
              refine ⟨h6, ?_⟩
              have e3 : errD xs i 3 = 0 := by omega
              have e2 : errD xs i 2 = 0 := by
                have e : errD xs i 3 = (if errD xs i 2 = 0 then errJ xs i 2 else errD xs i 2) := rfl
                rw [e3] at e
                split at e
                · assumption
                · omega
              have e1 : errD xs i 1 = 0 := by
                have e : errD xs i 2 = (if errD xs i 1 = 0 then errJ xs i 1 else errD xs i 1) := rfl
                rw [e2] at e
                split at e
                · assumption
                · omega
              have j0 : errJ xs i 0 = 0 := by have e : errD xs i 1 = (if (0 : Nat) = 0 then errJ xs i 0 else 0) := rfl; rw [e1, if_pos rfl] at e; exact e.symm
              have j1 : errJ xs i 1 = 0 := by have e : errD xs i 2 = (if errD xs i 1 = 0 then errJ xs i 1 else errD xs i 1) := rfl; rw [e2, if_pos e1] at e; exact e.symm
              have j2 : errJ xs i 2 = 0 := by have e : errD xs i 3 = (if errD xs i 2 = 0 then errJ xs i 2 else errD xs i 2) := rfl; rw [e3, if_pos e2] at e; exact e.symm
              have p0 : xs.drop i = vecBytes (vecJ xs i 0) ++ xs.drop (posD xs i 1) := vec_put j0
              have p1 : xs.drop (posD xs i 1) = vecBytes (vecJ xs i 1) ++ xs.drop (posD xs i 2) := vec_put j1
              have p2 : xs.drop (posD xs i 2) = vecBytes (vecJ xs i 2) ++ xs.drop (tlP xs i) := vec_put j2
              have p3 := src_put (xs := xs) (p := tlP xs i) (by omega)
              have jg : (vecAt (xs.drop (tlR xs i))).2.2 = 0 := by
                have e : errD xs (tlR xs i) 1 = (if (0 : Nat) = 0 then errJ xs (tlR xs i) 0 else 0) := rfl
                rw [if_pos rfl] at e
                have : errJ xs (tlR xs i) 0 = 0 := by omega
                exact this
              have p5 : xs.drop (tlR xs i) = vecBytes (vecJ xs (tlR xs i) 0) ++ xs.drop (vecN xs (tlR xs i)) := vec_put jg
              have p4 : xs.drop (tlP xs i + 1) = (if srcJ xs (tlP xs i) = 3 then vecBytes (vecJ xs (tlP xs i + 1) 0) else []) ++ xs.drop (tlR xs i) := by
                by_cases hs : srcJ xs (tlP xs i) = 3
                · rw [if_pos hs]
                  have jp : (vecAt (xs.drop (tlP xs i + 1))).2.2 = 0 := by
                    have e : errD xs (tlP xs i + 1) 1 = (if (0 : Nat) = 0 then errJ xs (tlP xs i + 1) 0 else 0) := rfl
                    rw [if_pos rfl] at e
                    have : errJ xs (tlP xs i + 1) 0 = 0 := by
                      apply Classical.byContradiction
                      intro hc
                      exact h4 ⟨hs, by omega⟩
                    exact this
                  have hR : tlR xs i = vecN xs (tlP xs i + 1) := by unfold tlR; rw [if_pos hs]; rfl
                  rw [hR]
                  exact vec_put jp
                · rw [if_neg hs, List.nil_append]
                  have hR : tlR xs i = tlP xs i + 1 := by unfold tlR; rw [if_neg hs]
                  rw [hR]
              unfold leafBy aheadB tlF
              simp only [List.append_assoc]
              rw [p0, p1, p2, p3, p4, p5]
              by_cases hs : srcJ xs (tlP xs i) = 3
              · simp only [if_pos hs]; rfl
              · simp only [if_neg hs]; rfl
            · cases h
end Go.Proofs.Ytlgcdddgahjknaa
end
section
namespace Go.Proofs.Ytlgcdddgahjknaa
open Go Go.RowKit
set_option linter.unusedVariables false
set_option linter.unusedSimpArgs false
theorem late_be (v : List UInt8) (j : Nat) (h : 4 * j + 4 ≤ v.length) : beBytes 4 (lateAt v j).toNat = (v.drop (4 * j)).take 4 := by
  have hd : (v.drop (4 * j)).take 4 = [v.getD (4 * j) 0, v.getD (4 * j + 1) 0, v.getD (4 * j + 2) 0, v.getD (4 * j + 3) 0] := by
    have g : ∀ k, k < v.length → v.getD k 0 = v[k]! := fun k hk => by rw [List.getD_eq_getElem?_getD, List.getElem!_eq_getElem?_getD]; rfl
    have e : ∀ k (hk : k < v.length), v.drop k = v.getD k 0 :: v.drop (k + 1) := fun k hk => by
      rw [List.drop_eq_getElem_cons hk, List.getD_eq_getElem?_getD, List.getElem?_eq_getElem hk]; rfl
    rw [e (4 * j) (by omega), e (4 * j + 1) (by omega), e (4 * j + 2) (by omega), e (4 * j + 3) (by omega)]
    rfl
  have hb := be_num [v.getD (4 * j) 0, v.getD (4 * j + 1) 0, v.getD (4 * j + 2) 0, v.getD (4 * j + 3) 0] 0
  have hn : beNum 0 [v.getD (4 * j) 0, v.getD (4 * j + 1) 0, v.getD (4 * j + 2) 0, v.getD (4 * j + 3) 0] = (lateAt v j).toNat := by
    unfold lateAt
    rw [Int.toNat_natCast]
    simp [beNum]
  rw [hn] at hb
  rw [hd]
  exact hb
theorem late_put (v : List UInt8) (n : Nat) (h : 4 * n ≤ v.length) : lateBy (lateOf v n) = v.take (4 * n) := by
  induction n with
  | zero => rfl
  | succ n ih =>
    rw [late_step]
    unfold lateBy at ih ⊢
    rw [List.flatMap_append, ih (by omega)]
    show v.take (4 * n) ++ (beBytes 4 (lateAt v n).toNat ++ []) = _
    rw [List.append_nil, late_be v n (by omega), ← List.take_add]
    rfl
theorem lateAt_shift (a r : List UInt8) (ha : a.length = 4) (j : Nat) : lateAt (a ++ r) (j + 1) = lateAt r j := by
  have g : ∀ k, (a ++ r).getD (4 + k) 0 = r.getD k 0 := fun k => by
    rw [List.getD_eq_getElem?_getD, List.getD_eq_getElem?_getD, List.getElem?_append_right (by omega), ha, Nat.add_sub_cancel_left]
  unfold lateAt
  rw [show 4 * (j + 1) = 4 + 4 * j by omega, show 4 + 4 * j + 1 = 4 + (4 * j + 1) by omega, show 4 + 4 * j + 2 = 4 + (4 * j + 2) by omega, show 4 + 4 * j + 3 = 4 + (4 * j + 3) by omega, g, g, g, g]
theorem lateAt_head (z : Int) (r : List UInt8) (h0 : 0 ≤ z) (h1 : z ≤ 65535) : lateAt (beBytes 4 z.toNat ++ r) 0 = z := by
  have hb : beBytes 4 z.toNat = [UInt8.ofNat (z.toNat / 256 ^ 3), UInt8.ofNat (z.toNat / 256 ^ 2), UInt8.ofNat (z.toNat / 256 ^ 1), UInt8.ofNat (z.toNat / 256 ^ 0)] := rfl
  unfold lateAt
  rw [hb]
  show (((((UInt8.ofNat (z.toNat / 256 ^ 3)).toNat * 256 + (UInt8.ofNat (z.toNat / 256 ^ 2)).toNat) * 256 + (UInt8.ofNat (z.toNat / 256 ^ 1)).toNat) * 256 + (UInt8.ofNat (z.toNat / 256 ^ 0)).toNat : Nat) : Int) = z
  simp only [UInt8.toNat_ofNat']
  omega
theorem late_back (l : List Int) (h : ∀ v ∈ l, 0 ≤ v ∧ v ≤ 65535) : lateOf (lateBy l) l.length = l := by
  induction l with
  | nil => rfl
  | cons z l ih =>
    have hz := h z (List.mem_cons_self ..)
    have hc : lateBy (z :: l) = beBytes 4 z.toNat ++ lateBy l := rfl
    rw [hc]
    unfold lateOf at ih ⊢
    rw [List.length_cons, List.range_succ_eq_map, List.map_cons, List.map_map, lateAt_head z _ hz.1 hz.2]
    congr 1
    have hf : (lateAt (beBytes 4 z.toNat ++ lateBy l)) ∘ Nat.succ = lateAt (lateBy l) := funext fun j => lateAt_shift _ _ (beBytes_length 4 _) j
    rw [hf]
    exact ih fun v hv => h v (List.mem_cons_of_mem _ hv)
theorem rise_in {l : List Int} (h : riseB l = true) : ∀ v ∈ l, 0 ≤ v ∧ v ≤ 65535 := fun v hv => by
  obtain ⟨i, hi, rfl⟩ := List.getElem_of_mem hv
  unfold riseB at h
  have := List.all_eq_true.1 h i (List.mem_range.2 hi)
  unfold badL at this
  rw [getD_of hi] at this
  simp only [Bool.not_eq_true', Bool.or_eq_false_iff, decide_eq_false_iff_not] at this
  omega
theorem rise_count {l : List Int} (h : riseB l = true) : l.length ≤ 65536 := by
  have hb : ∀ i, i < l.length → (i : Int) ≤ l.getD i 0 := by
    intro i
    induction i with
    | zero =>
      intro hi
      have := (rise_in h _ (List.getElem_mem hi)).1
      rw [getD_of hi]
      omega
    | succ i ih =>
      intro hi
      have h1 := ih (by omega)
      unfold riseB at h
      have h2 := List.all_eq_true.1 h (i + 1) (List.mem_range.2 hi)
      unfold badL at h2
      simp only [Bool.not_eq_true', Bool.or_eq_false_iff, Bool.and_eq_false_iff, decide_eq_false_iff_not, Nat.add_sub_cancel] at h2
      rcases h2.2 with h3 | h3
      · omega
      · omega
  apply Nat.le_of_not_lt
  intro hc
  have h1 := hb 65536 hc
  have h2 := (rise_in h _ (List.getElem_mem hc)).2
  rw [getD_of hc] at h1
  omega
theorem parB_len {u : Pnt} (h : parB u = true) : riseB u.late = true ∧ u.box.length = 32 ∧ (u.hash.length = 0 ∨ u.hash.length = 32) := by
  unfold parB at h
  simp only [Bool.and_eq_true, Bool.or_eq_true, decide_eq_true_eq] at h
  exact h
theorem empty_lf {x : Lf} (h : emptyLf x = true) : x = lf0 := by
  unfold emptyLf sameNd sameLf at h
  simp only [Bool.and_eq_true, beq_iff_eq] at h
  obtain ⟨⟨⟨⟨h0, ⟨⟨⟨⟨⟨h1, h2⟩, h3⟩, h4⟩, h5⟩, h6⟩⟩, -⟩, -⟩, -⟩ := h
  cases x
  simp only at h1 h2 h3 h4 h5 h6
  subst h1; subst h2; subst h3; subst h4; subst h5; subst h6
  rfl
theorem empty_pr {u : Pnt} (h : emptyPr u = true) : u = pr0 := by
  unfold emptyPr sameNd sameLf at h
  simp only [Bool.and_eq_true, beq_iff_eq] at h
  obtain ⟨⟨⟨-, h1⟩, h2⟩, h3⟩ := h
  cases u
  simp only at h1 h2 h3
  subst h1; subst h2; subst h3
  rfl
/-- A node's bytes give it back. -/
theorem tk_back {xs : List UInt8} {k : Nat} {x : Lf} {u : Pnt} {R : List UInt8} (h : xs = nodeBy k x u ++ R) (hr : rightB k x u = true) : tkE xs 0 = 0 ∧ tkK xs 0 = k ∧ tkL xs 0 = x ∧ tkP xs 0 = u ∧ tkN xs 0 = (nodeBy k x u).length := by
  unfold rightB at hr
  by_cases h0 : k = 0
  · rw [if_pos h0, Bool.and_eq_true] at hr
    have hx := empty_lf hr.1; have hu := empty_pr hr.2
    subst h0; subst hx; subst hu
    have hb : nodeBy 0 lf0 pr0 = [0] := rfl
    rw [hb] at h ⊢
    have hs := src_of (xs := xs) (p := 0) (r := 0) (R := R) (by rw [h]; rfl) (by decide)
    have hE : tkE xs 0 = 0 := by unfold tkE; rw [if_neg (by omega), if_pos hs.1]
    refine ⟨hE, ?_, ?_, ?_, ?_⟩
    · unfold tkK; rw [if_pos hE, hs.1]
    · unfold tkL; rw [if_neg (by omega)]
    · unfold tkP; rw [if_neg (by omega)]
    · unfold tkN; rw [if_pos hE, if_pos hs.1]; rfl
  · rw [if_neg h0] at hr
    by_cases h1 : k = 1
    · rw [if_pos h1, Bool.and_eq_true] at hr
      have hu := empty_pr hr.2
      subst h1; subst hu
      have hb : nodeBy 1 x pr0 = [1] ++ leafBy x := rfl
      rw [hb, List.append_assoc] at h
      have hs := src_of (xs := xs) (p := 0) (r := 1) (R := leafBy x ++ R) (by rw [h]; rfl) (by decide)
      obtain ⟨t1, t2, t3, t4⟩ := tl_back (i := 0 + 1) hs.2.2 hr.1
      rw [Nat.zero_add] at t1 t2 t4
      have hE : tkE xs 0 = 0 := by unfold tkE; rw [if_neg (by omega), if_neg (by omega), if_pos hs.1]; exact t1
      refine ⟨hE, ?_, ?_, ?_, ?_⟩
      · unfold tkK; rw [if_pos hE, hs.1]
      · unfold tkL; rw [if_pos ⟨hE, hs.1⟩]; exact t2
      · unfold tkP; rw [if_neg (by omega)]
      · unfold tkN; rw [if_pos hE, if_neg (by omega), if_pos hs.1, hb]; show tlN xs 1 = _; rw [t4, List.length_append]; rfl
    · rw [if_neg h1] at hr
      by_cases h2 : k = 2
      · rw [if_pos h2, Bool.and_eq_true] at hr
        have hx := empty_lf hr.2
        subst h2; subst hx
        obtain ⟨n0, n1, n2⟩ := parB_len hr.1
        have hb : nodeBy 2 lf0 u = ([2] ++ vecBytes u.box) ++ (vecBytes u.hash ++ vecBytes (lateBy u.late)) := rfl
        rw [hb] at h
        simp only [List.append_assoc] at h
        have hs := src_of (xs := xs) (p := 0) (r := 2) (R := vecBytes u.box ++ (vecBytes u.hash ++ (vecBytes (lateBy u.late) ++ R))) (by rw [h]; rfl) (by decide)
        obtain ⟨a1, a2, a3, a4⟩ := vec_back hs.2.2 (by omega)
        obtain ⟨b1, b2, b3, b4⟩ := vec_back a4 (by omega)
        obtain ⟨c1, c2, c3, c4⟩ := vec_back b4 (by rw [lateBy_length]; have := rise_count n0; omega)
        have e3 : errD xs 1 3 = 0 := by
          have e1 : errD xs 1 1 = 0 := by show (if (0 : Nat) = 0 then errJ xs 1 0 else 0) = 0; rw [if_pos rfl]; exact a2
          have e2 : errD xs 1 2 = 0 := by show (if errD xs 1 1 = 0 then errJ xs 1 1 else errD xs 1 1) = 0; rw [if_pos e1]; exact b2
          show (if errD xs 1 2 = 0 then errJ xs 1 2 else errD xs 1 2) = 0; rw [if_pos e2]; exact c2
        have v2 : vecJ xs 1 2 = lateBy u.late := c1
        have hU : tkU xs 0 = u := by
          unfold tkU
          rw [show vecJ xs (0 + 1) 0 = u.box from a1, show vecJ xs (0 + 1) 1 = u.hash from b1, show vecJ xs (0 + 1) 2 = lateBy u.late from c1, lateBy_length, Nat.mul_div_cancel_left _ (by decide : 0 < 4), late_back _ (rise_in n0)]
        have hE : tkE xs 0 = 0 := by
          unfold tkE
          rw [if_neg (by omega), if_neg (by omega), if_neg (by omega), if_neg (by omega), if_neg (by show ¬ errD xs 1 3 ≠ 0; rw [e3]; simp), if_pos ⟨by show (vecJ xs 1 2).length % 4 = 0; rw [v2, lateBy_length]; omega, by rw [hU]; exact hr.1⟩]
        refine ⟨hE, ?_, ?_, ?_, ?_⟩
        · unfold tkK; rw [if_pos hE, hs.1]
        · unfold tkL; rw [if_neg (by omega)]
        · unfold tkP; rw [if_pos ⟨hE, hs.1⟩]; exact hU
        · unfold tkN
          rw [if_pos hE, if_neg (by omega), if_neg (by omega), hb]
          show vecN xs (vecN xs (vecN xs (0 + 1))) = _
          rw [c3, b3, a3]
          simp only [List.length_append, List.length_cons, List.length_nil]
          omega
      · rw [if_neg h2] at hr; cases hr
/-- What is taken as a node stands there as its bytes. -/
theorem tk_put {xs : List UInt8} (h : tkE xs 0 = 0) : rightB (tkK xs 0) (tkL xs 0) (tkP xs 0) = true ∧ xs = nodeBy (tkK xs 0) (tkL xs 0) (tkP xs 0) ++ xs.drop (tkN xs 0) := by
  have hK : tkK xs 0 = srcJ xs 0 := by unfold tkK; rw [if_pos h]
  have hE := h
  unfold tkE at h
  split at h
  · cases h
  · next hl =>
    have hp := src_put (xs := xs) (p := 0) (by omega)
    rw [List.drop_zero] at hp
    split at h
    · next h0 =>
      have hL : tkL xs 0 = lf0 := by unfold tkL; rw [if_neg (by omega)]
      have hP : tkP xs 0 = pr0 := by unfold tkP; rw [if_neg (by omega)]
      have hN : tkN xs 0 = 1 := by unfold tkN; rw [if_pos hE, if_pos h0]
      rw [hK, hL, hP, hN, h0]
      rw [h0] at hp
      exact ⟨by decide, hp⟩
    · next h0 =>
      split at h
      · next h1 =>
        have hL : tkL xs 0 = tlX xs 1 := by unfold tkL; rw [if_pos ⟨hE, h1⟩]
        have hP : tkP xs 0 = pr0 := by unfold tkP; rw [if_neg (by omega)]
        have hN : tkN xs 0 = tlN xs 1 := by unfold tkN; rw [if_pos hE, if_neg h0, if_pos h1]
        have ht := tl_put (xs := xs) (i := 1) h
        rw [hK, hL, hP, hN, h1]
        rw [h1] at hp
        refine ⟨?_, ?_⟩
        · show (leafB (tlX xs 1) && emptyPr pr0) = true; rw [ht.1]; rfl
        · show xs = ([1] ++ leafBy (tlX xs 1)) ++ xs.drop (tlN xs 1)
          rw [List.append_assoc, ← ht.2]; exact hp
      · next h1 =>
        split at h
        · cases h
        · next h2 =>
          have h2 : srcJ xs 0 = 2 := by omega
          split at h
          · next h3 => exact absurd h h3
          · next h3 =>
            have h3 : errD xs 1 3 = 0 := by
              apply Classical.byContradiction
              intro hc
              exact h3 hc
            split at h
            · next h4 =>
              have hL : tkL xs 0 = lf0 := by unfold tkL; rw [if_neg (by omega)]
              have hP : tkP xs 0 = tkU xs 0 := by unfold tkP; rw [if_pos ⟨hE, h2⟩]
              have hN : tkN xs 0 = posD xs 1 3 := by unfold tkN; rw [if_pos hE, if_neg h0, if_neg h1]
              have e2 : errD xs 1 2 = 0 := by
                have e : errD xs 1 3 = (if errD xs 1 2 = 0 then errJ xs 1 2 else errD xs 1 2) := rfl
                rw [h3] at e
                split at e
                · assumption
                · omega
              have e1 : errD xs 1 1 = 0 := by
                have e : errD xs 1 2 = (if errD xs 1 1 = 0 then errJ xs 1 1 else errD xs 1 1) := rfl
                rw [e2] at e
                split at e
                · assumption
                · omega
              have j0 : errJ xs 1 0 = 0 := by have e : errD xs 1 1 = (if (0 : Nat) = 0 then errJ xs 1 0 else 0) := rfl; rw [e1, if_pos rfl] at e; exact e.symm
              have j1 : errJ xs 1 1 = 0 := by have e : errD xs 1 2 = (if errD xs 1 1 = 0 then errJ xs 1 1 else errD xs 1 1) := rfl; rw [e2, if_pos e1] at e; exact e.symm
              have j2 : errJ xs 1 2 = 0 := by have e : errD xs 1 3 = (if errD xs 1 2 = 0 then errJ xs 1 2 else errD xs 1 2) := rfl; rw [h3, if_pos e2] at e; exact e.symm
              have p0 : xs.drop 1 = vecBytes (vecJ xs 1 0) ++ xs.drop (posD xs 1 1) := vec_put j0
              have p1 : xs.drop (posD xs 1 1) = vecBytes (vecJ xs 1 1) ++ xs.drop (posD xs 1 2) := vec_put j1
              have p2 : xs.drop (posD xs 1 2) = vecBytes (vecJ xs 1 2) ++ xs.drop (posD xs 1 3) := vec_put j2
              have hlt : lateBy (lateOf (vecJ xs 1 2) ((vecJ xs 1 2).length / 4)) = vecJ xs 1 2 := by
                rw [late_put _ _ (by omega), List.take_of_length_le (by have := h4.1; have h5 : (vecJ xs 1 2).length % 4 = 0 := this; omega)]
              rw [hK, hL, hP, hN, h2]
              rw [h2] at hp
              refine ⟨?_, ?_⟩
              · show (parB (tkU xs 0) && emptyLf lf0) = true; rw [h4.2]; rfl
              · show xs = (([2] ++ vecBytes (vecJ xs 1 0)) ++ (vecBytes (vecJ xs 1 1) ++ vecBytes (lateBy (lateOf (vecJ xs 1 2) ((vecJ xs 1 2).length / 4))))) ++ xs.drop (posD xs 1 3)
                rw [hlt]
                simp only [List.append_assoc]
                rw [← p2, ← p1, ← p0]
                exact hp
            · cases h
end Go.Proofs.Ytlgcdddgahjknaa
end
