/-
  Package wire, the taking side, part 2: any length; what stands next; a vector.
-/
import Derived.Test.YtkdpaaaleicopaaWire5
namespace Go.Proofs.Ytkdpaaaleicopaa
open Go.RowKit
set_option linter.unusedVariables false
set_option linter.unusedSimpArgs false

/-- A length at the head of bytes: it, its size, the error. -/
def lenAt : List UInt8 → Nat × Nat × Nat
  | [] => (0, 0, 4)
  | x :: l =>
    if x.toNat < 64 then (x.toNat, 1, 0)
    else if 192 ≤ x.toNat then (0, 0, 3)
    else if x.toNat < 128 then
      if l.length < 1 then (0, 0, 4) else if lenSize (beNum (x.toNat % 64) (l.take 1)) = 2 then (beNum (x.toNat % 64) (l.take 1), 2, 0) else (0, 0, 3)
    else if l.length < 3 then (0, 0, 4) else if lenSize (beNum (x.toNat % 64) (l.take 3)) = 4 then (beNum (x.toNat % 64) (l.take 3), 4, 0) else (0, 0, 3)
def lenTup (r : Nat × Nat × Nat) : Value := .tuple #[.int .i64 (r.1 : Int), .int .i64 (r.2.1 : Int), .int .u8 (r.2.2 : Int)]

theorem lenRes_tup (V W : Nat) : lenRes V W = lenTup (if lenSize V = W then (V, W, 0) else (0, 0, 3)) := by
  unfold lenRes lenTup
  split <;> rfl

theorem lengthOf_any (A : Option Addr) (xs : List UInt8) (c : Nat) (w : World) (B : Nat) (hA : Sl w B A c (bvs xs)) :
    Calls Try.prog 41 #[.slice A xs.length c] w fun e w' => e = .returned (lenTup (lenAt xs)) ∧ w = w' := by
  rcases xs with _ | ⟨x, l⟩
  · exact lengthOf_nil A c w
  · have hcap := hA.cap
    rw [bvs_length, List.length_cons] at hcap
    have hL := hA.lie
    obtain ⟨b, o, rfl, hb, hc⟩ := hL.byte (k := 0) (by simp)
    simp only [Nat.add_zero, List.getElem_cons_zero] at hc
    have hx := x.toNat_lt
    simp only [lenAt]
    by_cases h1 : x.toNat < 64
    · rw [if_pos h1]
      exact lengthOf_one b o x.toNat (x :: l).length c w hc (by simp) h1 (by rw [List.length_cons]; omega)
    · rw [if_neg h1]
      by_cases h2 : 192 ≤ x.toNat
      · rw [if_pos h2]
        exact lengthOf_three b o x.toNat (x :: l).length c w hc (by simp) h2 (by omega) (by rw [List.length_cons]; omega)
      · rw [if_neg h2]
        by_cases h3 : x.toNat < 128
        · rw [if_pos h3]
          by_cases h4 : l.length < 1
          · rw [if_pos h4]
            exact lengthOf_short b o x.toNat (x :: l).length c w hc (by simp) (.inl ⟨by omega, h3, by rw [List.length_cons]; omega⟩)
          · rw [if_neg h4, ← lenRes_tup]
            exact lengthOf_two b o x l c w B hL (by omega) h3 (by omega) hcap.1 hcap.2
        · rw [if_neg h3]
          by_cases h4 : l.length < 3
          · rw [if_pos h4]
            exact lengthOf_short b o x.toNat (x :: l).length c w hc (by simp) (.inr ⟨by omega, by omega, by rw [List.length_cons]; omega⟩)
          · rw [if_neg h4, ← lenRes_tup]
            exact lengthOf_four b o x l c w B hL (by omega) (by omega) (by omega) hcap.1 hcap.2

/-- A reader at block g: bytes xs are left, the error is e. -/
def Rd (w : World) (g : Nat) (xs : List UInt8) (e : Nat) : Prop :=
  ∃ A c, w.heap[g]? = some (.cells #[.slice A xs.length c, .int .u8 (e : Int)] 55 (0, 0)) ∧ Sl w g A c (bvs xs)

set_option maxHeartbeats 400000 in
theorem next_short (g : Nat) (xs : List UInt8) (n : Nat) (w : World) (hr : Rd w g xs 0) (hn : xs.length < n) (h63 : n ≤ 9223372036854775807) :
    Calls Try.prog 37 #[.pointer (some ⟨g, 0, none⟩), .int .i64 (n : Int)] w fun e w' => e = .returned (.slice none 0 0) ∧ Rd w' g xs 4 ∧ w.grownBy w' (some g) := by
  obtain ⟨A, c, hg, hS⟩ := hr
  have c0 := cell_of hg 0 _ rfl
  have c1 := cell_of hg 1 _ rfl
  have f1 := frozen_of_row w g 1 _ _ hg
  go_enter Try.func37, Try.ntmps37
  go_wp2
  go_ret
  refine ⟨rfl, ⟨A, c, ?_, hS.setCell (Nat.le_refl _) _⟩, ?_⟩
  · rw [block_set hg]; rfl
  · exact grown_setCell _ _ _ _ _

set_option maxHeartbeats 400000 in
theorem next_ok (g : Nat) (xs : List UInt8) (n : Nat) (w : World) (hr : Rd w g xs 0) (hn : n ≤ xs.length) :
    Calls Try.prog 37 #[.pointer (some ⟨g, 0, none⟩), .int .i64 (n : Int)] w fun e w' => ∃ A c, e = .returned (.slice A n c) ∧ Sl w' g A c (bvs (xs.take n)) ∧ Rd w' g (xs.drop n) 0 ∧ w.grownBy w' (some g) := by
  obtain ⟨A, c, hg, hS⟩ := hr
  have hcap := hS.cap
  rw [bvs_length] at hcap
  have c0 := cell_of hg 0 _ rfl
  have f0 := frozen_of_row w g 0 _ _ hg
  have ht : bvs (xs.take n) = (bvs xs).take n := by simp [bvs, List.map_take]
  have hd : bvs (xs.drop n) = (bvs xs).drop n := by simp [bvs, List.map_drop]
  have HT := hid ht
  have HD := hid hd
  have HL : Hid ((xs.drop n).length = xs.length - n) := hid (List.length_drop ..)
  clear ht hd
  by_cases hend : c = n
  · have hn2 : xs.length = n := by omega
    have hN := hid hn2
    have hE := hid hend
    subst hend
    clear hn2
    go_enter Try.func37, Try.ntmps37
    go_wp2
    go_ret
    refine ⟨A, _, rfl, ?_, ⟨A, 0, ?_, ?_⟩, grown_setCell _ _ _ _ _⟩
    · rw [HT.out]; exact (hS.take _).setCell (Nat.le_refl _) _
    · rw [block_set hg, HL.out, hN.out, Nat.sub_self]; rfl
    · have : (xs.drop c) = [] := List.drop_eq_nil_of_le (by rw [hN.out]; exact Nat.le_refl _)
      rw [this]
      have h := (hS.setCell (p := ⟨g, 0, none⟩) (Nat.le_refl _) (.slice A 0 0)).end_ c
      rw [Nat.sub_self] at h
      exact h
  · go_enter Try.func37, Try.ntmps37
    go_wp2
    go_ret
    refine ⟨A, _, rfl, ?_, ⟨A.map (fun x => x.add n), c - n, ?_, ?_⟩, grown_setCell _ _ _ _ _⟩
    · rw [HT.out]; exact (hS.take _).setCell (Nat.le_refl _) _
    · rw [block_set hg, HL.out]; rfl
    · rw [HD.out]
      rcases hS with ⟨rfl, rfl, hx⟩ | ⟨b, o, rfl, h⟩
      · exact absurd hcap.1 (by omega)
      · have hS2 : Sl w g (some ⟨b, o, none⟩) c (bvs xs) := .inr ⟨b, o, rfl, h⟩
        have h := (hS2.setCell (p := ⟨g, 0, none⟩) (Nat.le_refl _) (.slice (some ⟨b, o + n, none⟩) (xs.length - n) (c - n))).drop n (by omega)
        simp only [Option.map_some, add_none]
        exact h

/-- A vector at the head of bytes: it, what is left, the error. -/
def vecAt (xs : List UInt8) : List UInt8 × List UInt8 × Nat :=
  if (lenAt xs).2.2 ≠ 0 then ([], xs, (lenAt xs).2.2)
  else if xs.length < (lenAt xs).2.1 + (lenAt xs).1 then ([], xs, 4)
  else ((xs.drop (lenAt xs).2.1).take (lenAt xs).1, xs.drop ((lenAt xs).2.1 + (lenAt xs).1), 0)

theorem lenAt_bounds (xs : List UInt8) : (lenAt xs).1 < 1073741824 ∧ (lenAt xs).2.1 ≤ 4 ∧ ((lenAt xs).2.2 = 0 → (lenAt xs).2.1 ≤ xs.length) ∧ (lenAt xs).2.2 ≤ 4 := by
  rcases xs with _ | ⟨x, l⟩
  · simp [lenAt]
  · have hx := x.toNat_lt
    have hb : ∀ k, k ≤ 3 → k ≤ l.length → beNum (x.toNat % 64) (l.take k) < 1073741824 := by
      intro k hk hkl
      have h := beNum_lt (x.toNat % 64) (l.take k)
      rw [List.length_take, Nat.min_eq_left hkl] at h
      have h1 : (x.toNat % 64 + 1) * 256 ^ k ≤ 64 * 256 ^ 3 := Nat.mul_le_mul (by omega) (Nat.pow_le_pow_right (by decide) hk)
      omega
    simp only [lenAt, List.length_cons]
    split
    · simp; omega
    · split
      · simp
      · split
        · split
          · simp
          · split
            · have := hb 1 (by omega) (by omega); simp; omega
            · simp
        · split
          · simp
          · split
            · have := hb 3 (by omega) (by omega); simp; omega
            · simp

set_option maxHeartbeats 800000 in
theorem nextVec_any (g : Nat) (xs : List UInt8) (w : World) (hr : Rd w g xs 0) :
    Calls Try.prog 33 #[.pointer (some ⟨g, 0, none⟩)] w fun e w' => ∃ A c, e = .returned (.slice A (vecAt xs).1.length c) ∧ Sl w' g A c (bvs (vecAt xs).1) ∧ Rd w' g (vecAt xs).2.1 (vecAt xs).2.2 ∧ w.grownBy w' (some g) := by
  have hr0 := hr
  obtain ⟨A, c, hg, hS⟩ := hr
  have hcap := hS.cap
  rw [bvs_length] at hcap
  have c0 := cell_of hg 0 _ rfl
  have c1 := cell_of hg 1 _ rfl
  have f1 := frozen_of_row w g 1 _ _ hg
  have hb := lenAt_bounds xs
  have HV : Hid (vecAt xs = if (lenAt xs).2.2 ≠ 0 then ([], xs, (lenAt xs).2.2) else if xs.length < (lenAt xs).2.1 + (lenAt xs).1 then ([], xs, 4) else ((xs.drop (lenAt xs).2.1).take (lenAt xs).1, xs.drop ((lenAt xs).2.1 + (lenAt xs).1), 0)) := hid rfl
  have HC : ∀ B, Sl w B A c (bvs xs) → Calls Try.prog 41 #[.slice A xs.length c] w fun e w' => e = .returned (lenTup (lenAt xs)) ∧ w = w' := fun B h => lengthOf_any A xs c w B h
  have HC1 := hid (HC g hS)
  clear HC
  generalize lenAt xs = r at *
  generalize vecAt xs = V at *
  obtain ⟨n, s, e⟩ := r
  simp only at hb
  by_cases he : e = 0
  · subst he
    have hs := hb.2.2.1 rfl
    by_cases hl : xs.length < s + n
    · have hV : V = ([], xs, 4) := by
        have := HV.out
        simp only [ne_eq, not_true_eq_false, if_false, if_pos hl] at this
        exact this
      subst hV
      clear HV
      go_enter Try.func33, Try.ntmps33
      go_wp2_with fail
      refine HC1.out.mono ?_
      rintro ee w' ⟨rfl, rfl⟩
      simp only [lenTup]
      go_wp2
      go_ret
      exact ⟨none, 0, rfl, Sl.nil, ⟨A, c, by rw [block_set hg]; rfl, hS.setCell (Nat.le_refl _) _⟩, grown_setCell _ _ _ _ _⟩
    · have hV : V = ((xs.drop s).take n, xs.drop (s + n), 0) := by
        have := HV.out
        simp only [ne_eq, not_true_eq_false, if_false, if_neg hl] at this
        exact this
      subst hV
      have HL : Hid (((xs.drop s).take n).length = n) := hid (by simp; omega)
      have HT : Hid (bvs ((xs.drop s).take n) = (bvs (xs.take (s + n))).drop s) := hid (by
        have h : (xs.take (s + n)).drop s = (xs.drop s).take n := by rw [List.drop_take]; congr 1; omega
        rw [← h]; simp [bvs, List.map_drop])
      clear HV
      go_enter Try.func33, Try.ntmps33
      go_wp2_with fail
      refine HC1.out.mono ?_
      rintro ee w' ⟨rfl, rfl⟩
      simp only [lenTup]
      go_wp2_with fail
      rw [show ((s : Int) + (n : Int)) = ((s + n : Nat) : Int) from by omega]
      refine (next_ok g xs (s + n) _ hr0 (by omega)).mono ?_
      rintro ee w1 ⟨A1, c1', rfl, hS1, hr1, hg1⟩
      have hcap1 := hS1.cap
      rw [bvs_length, List.length_take, Nat.min_eq_left (by omega)] at hcap1
      clear HC1 hr0 hg hS c0 c1 f1 hb
      by_cases hend : c1' = s
      · have hn0 : n = 0 := by omega
        subst hn0
        subst hend
        go_wp2
        go_ret
        refine ⟨A1, 0, by rw [HL.out]; rfl, ?_, hr1, hg1⟩
        have h := hS1.end_ c1'
        rw [Nat.sub_self] at h
        simpa [bvs] using h
      · have hlt : s < c1' := by omega
        go_wp2
        go_ret
        refine ⟨A1.map (fun x => x.add s), c1' - s, ?_, ?_, hr1, hg1⟩
        · rw [HL.out]
          have : s + n - s = n := by omega
          simp [this]
        · rw [HT.out]
          rcases hS1 with ⟨rfl, rfl, hx⟩ | ⟨b, o, rfl, h⟩
          · exact absurd hlt (by omega)
          · have hS2 : Sl w1 g (some ⟨b, o, none⟩) c1' (bvs (xs.take (s + n))) := .inr ⟨b, o, rfl, h⟩
            have h2 := hS2.drop s hlt
            simp only [Option.map_some, add_none]
            exact h2
  · have hV : V = ([], xs, e) := by
      have := HV.out
      simp only [ne_eq, he, not_false_eq_true, if_true] at this
      exact this
    subst hV
    have he1 : ((e : Int) == 0) = false := by simp; omega
    have he2 : ((e : Int) != 0) = true := by simp; omega
    clear HV he
    go_enter Try.func33, Try.ntmps33
    go_wp2_with fail
    refine HC1.out.mono ?_
    rintro ee w' ⟨rfl, rfl⟩
    simp only [lenTup]
    go_wp2
    go_ret
    exact ⟨none, 0, rfl, Sl.nil, ⟨A, c, by rw [block_set hg]; rfl, hS.setCell (Nat.le_refl _) _⟩, grown_setCell _ _ _ _ _⟩
end Go.Proofs.Ytkdpaaaleicopaa
