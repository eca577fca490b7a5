/-
  Package wire, the taking side, part 1: numbers joined, lengths read.
-/
import Derived.Test.YtkdpaaaleicopaaWire4
import Derived.ScopeJumps
namespace Go.Proofs.Ytkdpaaaleicopaa
open Go.RowKit
set_option linter.unusedVariables false
set_option linter.unusedSimpArgs false

set_option maxRecDepth 100000 in
theorem joined_any (n : Nat) (A : Option Addr) (xs : List UInt8) (c : Nat) (w : World) (B : Nat) (hA : Lie w B A (bvs xs)) (hn : (n + 1) * 256 ^ xs.length ≤ 18446744073709551616) (hl : xs.length ≤ 8) :
    Calls Try.prog 36 #[.int .u64 (n : Int), .slice A xs.length c] w fun e w' => e = .returned (.int .u64 (beNum n xs : Int)) ∧ w = w' := by
  have HN := hid hn
  clear hn
  go_enter Try.func36, Try.ntmps36
  go_wp2
  go_loopg [0, 9] xs.length (fun g u i wr => ∃ k : Nat, k + g = xs.length ∧ i = .int .i64 (k : Int) ∧ u = .int .u64 (beNum n (xs.take k) : Int) ∧ wr = w)
  case atStart => exact ⟨0, by omega, rfl, by simp [beNum], rfl⟩
  case round =>
    obtain ⟨k, hk, rfl, rfl, rfl⟩ := hrel
    by_cases hlt : k < xs.length
    · obtain ⟨b, o, rfl, hb, hc⟩ := hA.byte hlt
      have HS := hid (beNum_snoc n (xs.take k) xs[k])
      have HT := hid (List.take_succ_eq_append_getElem hlt)
      have hx := xs[k].toNat_lt
      have hT : beNum n (xs.take k) * 256 + 256 ≤ 18446744073709551616 := by
        have h1 := beNum_lt n (xs.take k)
        rw [List.length_take, Nat.min_eq_left (by omega)] at h1
        have h2 : (n + 1) * 256 ^ (k + 1) ≤ (n + 1) * 256 ^ xs.length := Nat.mul_le_mul_left _ (Nat.pow_le_pow_right (by decide) (by omega))
        have h3 := HN.out
        rw [Nat.pow_succ, ← Nat.mul_assoc] at h2
        omega
      have hidk := hid hk
      clear hk
      have HO := hid (or_byte (beNum n (xs.take k)) xs[k].toNat (by omega) hT)
      have hw := wrap_byte (beNum n (xs.take k)) hT
      clear hT
      go_wp2
      have hk := hidk.out
      go_roundg (gk - 1)
      case measure => omega
      case rel => exact ⟨k + 1, by omega, by go_num, by rw [HT.out, HS.out, HO.out], rfl⟩
    · obtain rfl : k = xs.length := by omega
      rw [List.take_length]
      go_wp2
      go_ret
      exact ⟨rfl, rfl⟩

theorem lengthOf_nil (A : Option Addr) (c : Nat) (w : World) :
    Calls Try.prog 41 #[.slice A 0 c] w fun e w' => e = .returned (.tuple #[.int .i64 0, .int .i64 0, .int .u8 4]) ∧ w = w' := by
  go_enter Try.func41, Try.ntmps41
  go_wp2
  go_step3
  go_wp2
  try rw [Exit.noGoto_ret]
  go_ret3
  exact ⟨rfl, rfl⟩

theorem lengthOf_one (b o : Nat) (x n : Nat) (c : Nat) (w : World) (hc : w.cell? ⟨b, o, none⟩ = some (.int .u8 (x : Int))) (hn : 0 < n) (hx : x < 64) (h63 : n ≤ 9223372036854775807) :
    Calls Try.prog 41 #[.slice (some ⟨b, o, none⟩) n c] w fun e w' => e = .returned (.tuple #[.int .i64 (x : Int), .int .i64 1, .int .u8 0]) ∧ w = w' := by
  have h1 : (x : Int) / 64 = 0 := by omega
  have h2 : (x : Int) % 64 = x := by omega
  have hn0 : ((n : Int) == 0) = false := by simp; omega
  have HS : Hid (lenSz (x : Int) = 1) := hid (by unfold lenSz; rw [if_neg (by omega), if_pos (by omega)])
  go_enter Try.func41, Try.ntmps41
  go_wp2
  go_step3
  go_wp2
  go_step3
  go_wp2_with fail
  refine (LenSize_any _ _).mono ?_
  rintro e w' ⟨rfl, rfl⟩
  rw [HS.out]
  go_wp2
  try rw [Exit.noGoto_ret]
  go_ret3
  exact ⟨rfl, rfl⟩

theorem lengthOf_three (b o : Nat) (x n : Nat) (c : Nat) (w : World) (hc : w.cell? ⟨b, o, none⟩ = some (.int .u8 (x : Int))) (hn : 0 < n) (hx : 192 ≤ x) (hx2 : x < 256) (h63 : n ≤ 9223372036854775807) :
    Calls Try.prog 41 #[.slice (some ⟨b, o, none⟩) n c] w fun e w' => e = .returned (.tuple #[.int .i64 0, .int .i64 0, .int .u8 3]) ∧ w = w' := by
  have h1 : (x : Int) / 64 = 3 := by omega
  have hn0 : ((n : Int) == 0) = false := by simp; omega
  go_enter Try.func41, Try.ntmps41
  go_wp2
  go_step3
  go_wp2
  try rw [Exit.noGoto_ret]
  go_ret3
  exact ⟨rfl, rfl⟩

theorem lengthOf_short (b o : Nat) (x n : Nat) (c : Nat) (w : World) (hc : w.cell? ⟨b, o, none⟩ = some (.int .u8 (x : Int))) (hn : 0 < n) (hx : (64 ≤ x ∧ x < 128 ∧ n < 2) ∨ (128 ≤ x ∧ x < 192 ∧ n < 4)) :
    Calls Try.prog 41 #[.slice (some ⟨b, o, none⟩) n c] w fun e w' => e = .returned (.tuple #[.int .i64 0, .int .i64 0, .int .u8 4]) ∧ w = w' := by
  have hn0 : ((n : Int) == 0) = false := by simp; omega
  rcases hx with ⟨ha, hb, hl⟩ | ⟨ha, hb, hl⟩
  · have h1 : (x : Int) / 64 = 1 := by omega
    go_enter Try.func41, Try.ntmps41
    go_wp2
    go_step3
    go_wp2
    try rw [Exit.noGoto_ret]
    go_ret3
    exact ⟨rfl, rfl⟩
  · have h1 : (x : Int) / 64 = 2 := by omega
    go_enter Try.func41, Try.ntmps41
    go_wp2
    go_step3
    go_wp2
    try rw [Exit.noGoto_ret]
    go_ret3
    exact ⟨rfl, rfl⟩

/-- The frame at the label. -/
def AtWider (b o n c s wh r : Nat) (a' : Act) : Prop :=
  ∃ (u1 u2 u4 u5 u8 u9 u10 u11 u12 u13 u14 u15 u16 u17 u18 u19 u20 u21 u22 u23 u24 u25 u26 u27 u28 u29 u30 u31 u32 u33 u34 u35 u36 u37 u38 u39 u40 u41 u42 u43 u44 u45 u46 u47 : Value), a' = { tmps := #[.slice (some ⟨b, o, none⟩) n c, u1, u2, .int .i64 (s : Int), u4, u5, .int .i64 (wh : Int), .int .u64 (r : Int), u8, u9, u10, u11, u12, u13, u14, u15, u16, u17, u18, u19, u20, u21, u22, u23, u24, u25, u26, u27, u28, u29, u30, u31, u32, u33, u34, u35, u36, u37, u38, u39, u40, u41, u42, u43, u44, u45, u46, u47], defers := [] }

/-- What a length of W bytes with the value V reads as. -/
def lenRes (V W : Nat) : Value := if lenSize V = W then .tuple #[.int .i64 (V : Int), .int .i64 (W : Int), .int .u8 0] else .tuple #[.int .i64 0, .int .i64 0, .int .u8 3]

theorem joined_m (n : Nat) (A : Option Addr) (xs : List UInt8) (m c : Nat) (w : World) (B : Nat) (hA : Lie w B A (bvs xs)) (hm : xs.length = m) (hn : (n + 1) * 256 ^ m ≤ 18446744073709551616) (hl : m ≤ 8) :
    Calls Try.prog 36 #[.int .u64 (n : Int), .slice A m c] w fun e w' => e = .returned (.int .u64 (beNum n xs : Int)) ∧ w = w' := by
  subst hm
  exact joined_any n A xs c w B hA hn hl

set_option maxRecDepth 100000 in
set_option maxHeartbeats 1600000 in
theorem lengthOf_two (b o : Nat) (x : UInt8) (xs : List UInt8) (c : Nat) (w : World) (B : Nat) (hA : Lie w B (some ⟨b, o, none⟩) (bvs (x :: xs))) (hx1 : 64 ≤ x.toNat) (hx2 : x.toNat < 128) (hn : 1 ≤ xs.length) (hcap : xs.length + 1 ≤ c) (h63 : c ≤ 9223372036854775807) :
    Calls Try.prog 41 #[.slice (some ⟨b, o, none⟩) (x :: xs).length c] w fun e w' => e = .returned (lenRes (beNum (x.toNat % 64) (xs.take 1)) 2) ∧ w = w' := by
  obtain ⟨b', o', hA', _, hc⟩ := hA.byte (k := 0) (by simp)
  simp only [Option.some.injEq, Addr.mk.injEq, and_true] at hA'
  obtain ⟨rfl, rfl⟩ := hA'
  simp only [Nat.add_zero, List.getElem_cons_zero] at hc
  have h1 : (x.toNat : Int) / 64 = 1 := by omega
  have hn0 : ((xs.length : Int) + 1 == 0) = false := by simp; omega
  have hB1 : Lie w B (some ⟨b, o + 1, none⟩) (bvs (xs.take 1)) := by
    have h := (hA.drop 1).take 1
    simpa [bvs, List.map_take] using h
  have hV := beNum_lt (x.toNat % 64) (xs.take 1)
  rw [List.length_take, Nat.min_eq_left hn] at hV
  have hVb : beNum (x.toNat % 64) (xs.take 1) < 1073741824 := by
    have : (x.toNat % 64 + 1) * 256 ^ 1 ≤ 1073741824 := by
      have : x.toNat % 64 < 64 := Nat.mod_lt _ (by decide)
      have h3 : (x.toNat % 64 + 1) * 256 ^ 1 ≤ 64 * 256 ^ 1 := Nat.mul_le_mul_right _ (by omega)
      exact Nat.le_trans h3 (by decide)
    omega
  clear hV
  have HL1 : Hid ((xs.take 1).length = 1) := hid (by simp; omega)
  have HZ := hid (lenSz_lenSize _ hVb)
  have HM : Hid (((x.toNat : Int) % 64) = ((x.toNat % 64 : Nat) : Int)) := hid (by omega)
  rw [List.length_cons]
  go_enter Try.func41, Try.ntmps41
  go_wp2
  refine wp_scope_jumps 0 (fun a' w' => w' = w ∧ AtWider b o (xs.length + 1) c 2 2 (beNum (x.toNat % 64) (xs.take 1)) a') (fun a' _ => 0) rfl ?_ ?_
  · go_wp2
    go_step3
    go_wp2_with fail
    rw [HM.out]
    refine (joined_m _ _ _ 1 _ _ B hB1 HL1.out (by omega) (by omega)).mono ?_
    rintro e w' ⟨rfl, rfl⟩
    go_wp2
    go_step3
    refine ⟨rfl, rfl, ?_⟩
    unfold AtWider
    repeat apply Exists.intro
    rfl
  · rintro a' w' ⟨rfl, hAt⟩
    unfold AtWider at hAt
    obtain ⟨u1, u2, u4, u5, u8, u9, u10, u11, u12, u13, u14, u15, u16, u17, u18, u19, u20, u21, u22, u23, u24, u25, u26, u27, u28, u29, u30, u31, u32, u33, u34, u35, u36, u37, u38, u39, u40, u41, u42, u43, u44, u45, u46, u47, rfl⟩ := hAt
    go_wp2_with fail
    refine (LenSize_any _ _).mono ?_
    rintro e w' ⟨rfl, rfl⟩
    rw [HZ.out]
    by_cases hs : lenSize (beNum (x.toNat % 64) (xs.take 1)) = 2
    · rw [hs]
      have HS := hid hs
      clear hs
      go_wp2
      try simp only [Exit.jump]
      go_ret3
      refine ⟨?_, rfl⟩
      rw [lenRes, if_pos HS.out]
      rfl
    · have hs2 : ((lenSize (beNum (x.toNat % 64) (xs.take 1)) : Int) != 2) = true := by rw [bne_iff_ne]; omega
      have HS := hid hs
      clear hs
      go_wp2
      try simp only [Exit.jump]
      go_ret3
      refine ⟨?_, rfl⟩
      rw [lenRes, if_neg HS.out]
      rfl

set_option maxRecDepth 100000 in
set_option maxHeartbeats 1600000 in
theorem lengthOf_four (b o : Nat) (x : UInt8) (xs : List UInt8) (c : Nat) (w : World) (B : Nat) (hA : Lie w B (some ⟨b, o, none⟩) (bvs (x :: xs))) (hx1 : 128 ≤ x.toNat) (hx2 : x.toNat < 192) (hn : 3 ≤ xs.length) (hcap : xs.length + 1 ≤ c) (h63 : c ≤ 9223372036854775807) :
    Calls Try.prog 41 #[.slice (some ⟨b, o, none⟩) (x :: xs).length c] w fun e w' => e = .returned (lenRes (beNum (x.toNat % 64) (xs.take 3)) 4) ∧ w = w' := by
  obtain ⟨b', o', hA', _, hc⟩ := hA.byte (k := 0) (by simp)
  simp only [Option.some.injEq, Addr.mk.injEq, and_true] at hA'
  obtain ⟨rfl, rfl⟩ := hA'
  simp only [Nat.add_zero, List.getElem_cons_zero] at hc
  have h1 : (x.toNat : Int) / 64 = 2 := by omega
  have hn0 : ((xs.length : Int) + 1 == 0) = false := by simp; omega
  have hB1 : Lie w B (some ⟨b, o + 1, none⟩) (bvs (xs.take 1)) := by
    have h := (hA.drop 1).take 1
    simpa [bvs, List.map_take] using h
  have hB2 : Lie w B (some ⟨b, o + 2, none⟩) (bvs ((xs.drop 1).take 2)) := by
    have h := (hA.drop 2).take 2
    simpa [bvs, List.map_take, List.map_drop] using h
  have hE : beNum (beNum (x.toNat % 64) (xs.take 1)) ((xs.drop 1).take 2) = beNum (x.toNat % 64) (xs.take 3) := by
    have h : xs.take 3 = xs.take 1 ++ (xs.drop 1).take 2 := by rw [← List.take_add]
    rw [h]; simp [beNum]
  have hL2 : ((xs.drop 1).take 2).length = 2 := by simp; omega
  have hV1 := beNum_lt (x.toNat % 64) (xs.take 1)
  rw [List.length_take, Nat.min_eq_left (by omega)] at hV1
  have hV1b : beNum (x.toNat % 64) (xs.take 1) < 16384 := by
    have : (x.toNat % 64 + 1) * 256 ^ 1 ≤ 16384 := by omega
    omega
  clear hV1
  have HE := hid hE
  have HL2 := hid hL2
  clear hE hL2
  have hV := beNum_lt (x.toNat % 64) (xs.take 3)
  rw [List.length_take, Nat.min_eq_left hn] at hV
  have hVb : beNum (x.toNat % 64) (xs.take 3) < 1073741824 := by
    have : (x.toNat % 64 + 1) * 256 ^ 3 ≤ 1073741824 := by
      have : x.toNat % 64 < 64 := Nat.mod_lt _ (by decide)
      have h3 : (x.toNat % 64 + 1) * 256 ^ 3 ≤ 64 * 256 ^ 3 := Nat.mul_le_mul_right _ (by omega)
      exact Nat.le_trans h3 (by decide)
    omega
  clear hV
  have HL1 : Hid ((xs.take 1).length = 1) := hid (by simp; omega)
  have HZ := hid (lenSz_lenSize _ hVb)
  have HM : Hid (((x.toNat : Int) % 64) = ((x.toNat % 64 : Nat) : Int)) := hid (by omega)
  rw [List.length_cons]
  go_enter Try.func41, Try.ntmps41
  go_wp2
  refine wp_scope_jumps 0 (fun a' w' => w' = w ∧ (AtWider b o (xs.length + 1) c 2 4 (beNum (x.toNat % 64) (xs.take 1)) a' ∨ AtWider b o (xs.length + 1) c 4 4 (beNum (x.toNat % 64) (xs.take 3)) a')) (fun a' _ => (4 - intOf (a'.tmps.getD 3 undef)).toNat) rfl ?_ ?_
  · go_wp2
    go_step3
    go_wp2_with fail
    rw [HM.out]
    refine (joined_m _ _ _ 1 _ _ B hB1 HL1.out (by omega) (by omega)).mono ?_
    rintro e w' ⟨rfl, rfl⟩
    go_wp2
    go_step3
    refine ⟨rfl, rfl, .inl ?_⟩
    unfold AtWider
    repeat apply Exists.intro
    rfl
  · rintro a' w' ⟨rfl, hAt | hAt⟩
    · unfold AtWider at hAt
      obtain ⟨u1, u2, u4, u5, u8, u9, u10, u11, u12, u13, u14, u15, u16, u17, u18, u19, u20, u21, u22, u23, u24, u25, u26, u27, u28, u29, u30, u31, u32, u33, u34, u35, u36, u37, u38, u39, u40, u41, u42, u43, u44, u45, u46, u47, rfl⟩ := hAt
      go_wp2_with fail
      refine (joined_m _ _ _ 2 _ _ B hB2 HL2.out (by omega) (by omega)).mono ?_
      rintro e w' ⟨rfl, rfl⟩
      rw [HE.out]
      go_wp2
      go_step3
      refine ⟨rfl, ⟨rfl, .inr ?_⟩, ?_⟩
      · unfold AtWider
        repeat apply Exists.intro
        rfl
      · simp [intOf]
    · unfold AtWider at hAt
      obtain ⟨u1, u2, u4, u5, u8, u9, u10, u11, u12, u13, u14, u15, u16, u17, u18, u19, u20, u21, u22, u23, u24, u25, u26, u27, u28, u29, u30, u31, u32, u33, u34, u35, u36, u37, u38, u39, u40, u41, u42, u43, u44, u45, u46, u47, rfl⟩ := hAt
      go_wp2_with fail
      refine (LenSize_any _ _).mono ?_
      rintro e w' ⟨rfl, rfl⟩
      rw [HZ.out]
      by_cases hs : lenSize (beNum (x.toNat % 64) (xs.take 3)) = 4
      · rw [hs]
        have HS := hid hs
        clear hs
        go_wp2
        try simp only [Exit.jump]
        go_ret3
        refine ⟨?_, rfl⟩
        rw [lenRes, if_pos HS.out]
        rfl
      · have hs2 : ((lenSize (beNum (x.toNat % 64) (xs.take 3)) : Int) != 4) = true := by rw [bne_iff_ne]; omega
        have HS := hid hs
        clear hs
        go_wp2
        try simp only [Exit.jump]
        go_ret3
        refine ⟨?_, rfl⟩
        rw [lenRes, if_neg HS.out]
        rfl

end Go.Proofs.Ytkdpaaaleicopaa
