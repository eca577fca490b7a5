/-
  Package field: numbers as four words; sums, what is missing.
-/
import Derived.Test.YtodimbmjbjioaaaM64
import Derived.Test.YtodimbmjbjioaaaQuiT
import Derived.Test.YtodimbmjbjioaaaFldP
namespace Go.Proofs.Ytodimbmjbjioaaa
open Go.RowKit
set_option linter.unusedVariables false
set_option linter.unusedSimpArgs false

abbrev ET : TypeId := 33
theorem infoE : (Try.prog.info? 33).map (·.size) = some 4 := by kernel_rfl
/-- Four words. -/
abbrev e4 (a b c d : Nat) : Array Value := #[.int .u64 (a : Int), .int .u64 (b : Int), .int .u64 (c : Int), .int .u64 (d : Int)]
/-- A number's four words. -/
def eA (n : Nat) : Array Value := e4 (n % 18446744073709551616) (n / 18446744073709551616 % 18446744073709551616) (n / 340282366920938463463374607431768211456 % 18446744073709551616) (n / 6277101735386680763835789423207666416102355444464034512896 % 18446744073709551616)
theorem eA_of (a b c d : Nat) (ha : a < 18446744073709551616) (hb : b < 18446744073709551616) (hc : c < 18446744073709551616) (hd : d < 18446744073709551616) :
    eA (a + 18446744073709551616 * b + 340282366920938463463374607431768211456 * c + 6277101735386680763835789423207666416102355444464034512896 * d) = e4 a b c d := by
  unfold eA
  congr 5
  all_goals congr 3
  all_goals omega
theorem words (n : Nat) (hn : n < 115792089237316195423570985008687907853269984665640564039457584007913129639936) : ∃ a b c d, a < 18446744073709551616 ∧ b < 18446744073709551616 ∧ c < 18446744073709551616 ∧ d < 18446744073709551616 ∧
    n = a + 18446744073709551616 * b + 340282366920938463463374607431768211456 * c + 6277101735386680763835789423207666416102355444464034512896 * d ∧ eA n = e4 a b c d :=
  ⟨n % 18446744073709551616, n / 18446744073709551616 % 18446744073709551616, n / 340282366920938463463374607431768211456 % 18446744073709551616, n / 6277101735386680763835789423207666416102355444464034512896 % 18446744073709551616,
    by omega, by omega, by omega, by omega, by omega, rfl⟩
theorem e4_one (a b c d : Nat) : (e4 a b c d).all (·.oneCell') = true := by simp [Value.oneCell']
theorem infoE4 (a b c d : Nat) : (Try.prog.info? 33).map (·.size) = some (e4 a b c d).size := infoE
theorem sizeE4 (a b c d a' b' c' d' : Nat) : (e4 a b c d).size = (e4 a' b' c' d').size := rfl
theorem belowRow {B : Nat} {a w : World} (h : Below B a w) {g : Nat} (hg : B ≤ g) (cs : Array Value) : Below B a (w.setRow g cs) :=
  ⟨h.os, h.tape, h.output, by rw [size_setRow]; exact h.size, fun k hk => (setRow_other w g k cs (by omega)).trans (h.block k hk)⟩
theorem blkN {w : World} {k : Nat} (hk : w.heap.size = k) (cs : Array Value) (t : TypeId) : (w.alloc (.cells cs t)).heap[k]? = some (.cells cs t (0, 0)) := by subst hk; exact heap_alloc_new w _
theorem blkA {w : World} {k : Nat} {cs : Array Value} {t : TypeId} (h : w.heap[k]? = some (.cells cs t (0, 0))) (o : Obj) : (w.alloc o).heap[k]? = some (.cells cs t (0, 0)) := block_grown h (World.grownBy_alloc w o none) (by simp)

theorem block_below {B : Nat} {a w : World} (h : Below B a w) {k : Nat} {o : Obj} (hk : k < B) (hg : a.heap[k]? = some o) : w.heap[k]? = some o := by rw [h.block k hk]; exact hg

theorem Num_e (n : Nat) (w : World) (hn : n < 18446744073709551616) :
    Calls Try.prog 25 #[.int .u64 (n : Int)] w fun e w' => e = .returned (.agg (eA n)) ∧ Below w.heap.size w w' := by
  have h : eA n = e4 n 0 0 0 := by have h := eA_of n 0 0 0 hn (by omega) (by omega) (by omega); simpa using h
  go_enter Try.func25, Try.ntmps25
  go_wp2
  refine bodyPost_ret (v := .agg (e4 n 0 0 0)) (results_cell_row rfl _ _ w.heap.size ET _ (0, 0) _ rfl (blkN rfl _ _) Try.underlying33 rfl infoE) rfl ⟨by rw [h], ?_⟩
  exact (Below.refl _ _).alloc (Nat.le_refl _) _

theorem sum_e (x y : Nat) (w : World) (h : x + y < 115792089237316195423570985008687907853269984665640564039457584007913129639936) :
    Calls Try.prog 47 #[.agg (eA x), .agg (eA y)] w fun e w' => e = .returned (.agg (eA (x + y))) ∧ Below w.heap.size w w' := by
  obtain ⟨a, b, c, d, ha, hb, hc, hd, hx, ex⟩ := words x (by omega)
  obtain ⟨a', b', c', d', ha', hb', hc', hd', hy, ey⟩ := words y (by omega)
  rw [ex, ey]
  have h1 := Add64_run a a'
  obtain ⟨s1, hs1⟩ : ∃ s, s = (a + a') % 18446744073709551616 := ⟨_, rfl⟩
  obtain ⟨o1, ho1⟩ : ∃ o, o = (a + a') / 18446744073709551616 := ⟨_, rfl⟩
  rw [← hs1, ← ho1] at h1
  have h2 := Add64_c b b' o1 (by omega)
  obtain ⟨s2, hs2⟩ : ∃ s, s = (b + b' + o1) % 18446744073709551616 := ⟨_, rfl⟩
  obtain ⟨o2, ho2⟩ : ∃ o, o = (b + b' + o1) / 18446744073709551616 := ⟨_, rfl⟩
  rw [← hs2, ← ho2] at h2
  have h3 := Add64_c c c' o2 (by omega)
  obtain ⟨s3, hs3⟩ : ∃ s, s = (c + c' + o2) % 18446744073709551616 := ⟨_, rfl⟩
  obtain ⟨o3, ho3⟩ : ∃ o, o = (c + c' + o2) / 18446744073709551616 := ⟨_, rfl⟩
  rw [← hs3, ← ho3] at h3
  obtain ⟨s4, hs4⟩ : ∃ s, s = d + d' + o3 := ⟨_, rfl⟩
  have hs4l : s4 < 18446744073709551616 := by omega
  have w1 : IntKind.u64.wrap ((d' : Int) + (o3 : Int)) = (d' : Int) + (o3 : Int) := by rw [IntKind.wrap_u64]; omega
  have w2 : IntKind.u64.wrap ((d : Int) + ((d' : Int) + (o3 : Int))) = (s4 : Int) := by rw [IntKind.wrap_u64]; omega
  have hv : x + y = s1 + 18446744073709551616 * s2 + 340282366920938463463374607431768211456 * s3 + 6277101735386680763835789423207666416102355444464034512896 * s4 := by omega
  have he : eA (x + y) = e4 s1 s2 s3 s4 := by rw [hv]; exact eA_of _ _ _ _ (by omega) (by omega) (by omega) hs4l
  have HE := hid he
  clear h hx hy ex ey hs1 ho1 hs2 ho2 hs3 ho3 hs4 hv he ha hb hc hd ha' hb' hc' hd' hs4l
  go_enter Try.func47, Try.ntmps47
  go_wp2
  refine bodyPost_ret (v := .agg (e4 s1 s2 s3 s4)) (results_cell_row rfl _ _ (w.heap.size + 1 + 1) ET _ (0, 0) _ rfl (blkN (by simp) _ _) Try.underlying33 rfl infoE) rfl ⟨by rw [HE.out], ?_⟩
  exact (((Below.refl _ _).alloc (Nat.le_refl _) _).alloc (by simp) _).alloc (by simp; omega) _

theorem missing_e (x : Nat) (w : World) (h : x ≤ pp) :
    Calls Try.prog 54 #[.agg (eA x)] w fun e w' => e = .returned (.agg (eA (pp - x))) ∧ Below w.heap.size w w' := by
  rw [pp_def] at *
  obtain ⟨a, b, c, d, ha, hb, hc, hd, hx, ex⟩ := words x (by omega)
  rw [ex]
  have h1 := Sub64_c 18446744073709551597 a 0 (by omega)
  obtain ⟨s1, hs1⟩ : ∃ s, s = (18446744073709551597 + 18446744073709551616 - a - 0) % 18446744073709551616 := ⟨_, rfl⟩
  obtain ⟨o1, ho1⟩ : ∃ o, o = (if 18446744073709551597 < a + 0 then 1 else 0) := ⟨_, rfl⟩
  rw [← hs1, ← ho1] at h1
  have lo1 : o1 ≤ 1 ∧ s1 + a = 18446744073709551597 + 18446744073709551616 * o1 ∧ s1 < 18446744073709551616 := by rw [hs1, ho1]; split <;> omega
  have h2 := Sub64_c 18446744073709551615 b o1 lo1.1
  obtain ⟨s2, hs2⟩ : ∃ s, s = (18446744073709551615 + 18446744073709551616 - b - o1) % 18446744073709551616 := ⟨_, rfl⟩
  obtain ⟨o2, ho2⟩ : ∃ o, o = (if 18446744073709551615 < b + o1 then 1 else 0) := ⟨_, rfl⟩
  rw [← hs2, ← ho2] at h2
  have lo2 : o2 ≤ 1 ∧ s2 + b + o1 = 18446744073709551615 + 18446744073709551616 * o2 ∧ s2 < 18446744073709551616 := by rw [hs2, ho2]; split <;> omega
  have h3 := Sub64_c 18446744073709551615 c o2 lo2.1
  obtain ⟨s3, hs3⟩ : ∃ s, s = (18446744073709551615 + 18446744073709551616 - c - o2) % 18446744073709551616 := ⟨_, rfl⟩
  obtain ⟨o3, ho3⟩ : ∃ o, o = (if 18446744073709551615 < c + o2 then 1 else 0) := ⟨_, rfl⟩
  rw [← hs3, ← ho3] at h3
  have lo3 : o3 ≤ 1 ∧ s3 + c + o2 = 18446744073709551615 + 18446744073709551616 * o3 ∧ s3 < 18446744073709551616 := by rw [hs3, ho3]; split <;> omega
  have h1' : ∀ W : World, (callFunc 57 #[.int .u64 18446744073709551597, .int .u64 (a : Int), .int .u64 0]).run Try.prog W = .ok (.value (.tuple #[.int .u64 (s1 : Int), .int .u64 (o1 : Int)])) W := h1
  have h2' : ∀ W : World, (callFunc 57 #[.int .u64 18446744073709551615, .int .u64 (b : Int), .int .u64 (o1 : Int)]).run Try.prog W = .ok (.value (.tuple #[.int .u64 (s2 : Int), .int .u64 (o2 : Int)])) W := h2
  have h3' : ∀ W : World, (callFunc 57 #[.int .u64 18446744073709551615, .int .u64 (c : Int), .int .u64 (o2 : Int)]).run Try.prog W = .ok (.value (.tuple #[.int .u64 (s3 : Int), .int .u64 (o3 : Int)])) W := h3
  clear h1 h2 h3 hs1 ho1 hs2 ho2 hs3 ho3
  obtain ⟨s4, hs4⟩ : ∃ s, s = 9223372036854775807 - d - o3 := ⟨_, rfl⟩
  have hd4 : d + o3 ≤ 9223372036854775807 := by omega
  have hs4l : s4 < 18446744073709551616 := by omega
  have w1 : IntKind.u64.wrap (9223372036854775807 - (d : Int)) = 9223372036854775807 - (d : Int) := by rw [IntKind.wrap_u64]; omega
  have w2 : IntKind.u64.wrap (9223372036854775807 - (d : Int) - (o3 : Int)) = (s4 : Int) := by rw [IntKind.wrap_u64]; omega
  have hv : 57896044618658097711785492504343953926634992332820282019728792003956564819949 - x = s1 + 18446744073709551616 * s2 + 340282366920938463463374607431768211456 * s3 + 6277101735386680763835789423207666416102355444464034512896 * s4 := by omega
  have he : eA (57896044618658097711785492504343953926634992332820282019728792003956564819949 - x) = e4 s1 s2 s3 s4 := by rw [hv]; exact eA_of _ _ _ _ lo1.2.2 lo2.2.2 lo3.2.2 hs4l
  have HE := hid he
  clear h hx ex lo1 lo2 lo3 hs4 hv he ha hb hc hd hs4l hd4
  go_enter Try.func54, Try.ntmps54
  go_wp2
  refine bodyPost_ret (v := .agg (e4 s1 s2 s3 s4)) (results_cell_row rfl _ _ (w.heap.size + 1) ET _ (0, 0) _ rfl (blkN (by simp) _ _) Try.underlying33 rfl infoE) rfl ⟨by rw [HE.out], ?_⟩
  exact ((Below.refl _ _).alloc (Nat.le_refl _) _).alloc (by simp) _

theorem below_e (x : Nat) (w : World) (h : x < 2 * pp) :
    Calls Try.prog 30 #[.agg (eA x)] w fun e w' => e = .returned (.agg (eA (x % pp))) ∧ Below w.heap.size w w' := by
  rw [pp_def] at *
  obtain ⟨a, b, c, d, ha, hb, hc, hd, hx, ex⟩ := words x (by omega)
  obtain ⟨s1, s2, s3, s4, h1, h2, h3, h4, hy, ey⟩ := words (x + 19) (by omega)
  have hsum := fun W => sum_e x 19 W (by omega)
  have e19 : eA 19 = e4 19 0 0 0 := by have h := eA_of 19 0 0 0 (by omega) (by omega) (by omega) (by omega); simpa using h
  rw [ex, ey, e19] at hsum
  rw [ex]
  have HS := hid hsum
  obtain ⟨t4, ht4⟩ : ∃ t, t = s4 % 9223372036854775808 := ⟨_, rfl⟩
  have ht4l : t4 < 18446744073709551616 := by omega
  have b4 : bits .and .u64 (s4 : Int) 9223372036854775807 = (t4 : Int) := by rw [and_top s4 h4, ht4]
  by_cases hlt : x < 57896044618658097711785492504343953926634992332820282019728792003956564819949
  · have hr : eA (x % 57896044618658097711785492504343953926634992332820282019728792003956564819949) = e4 a b c d := by rw [Nat.mod_eq_of_lt hlt, ex]
    have hsh : (s4 : Int) / 9223372036854775808 = 0 := by omega
    have hk : IntKind.u64.wrap (-1) = 18446744073709551615 := by rw [IntKind.wrap_u64]; omega
    have a1 := and_ones a ha; have a2 := and_ones b hb; have a3 := and_ones c hc; have a4 := and_ones d hd
    have n1 := andNot_ones s1 h1; have n2 := andNot_ones s2 h2; have n3 := andNot_ones s3 h3; have n4 := andNot_ones t4 ht4l
    have r1 := or_nought a ha; have r2 := or_nought b hb; have r3 := or_nought c hc; have r4 := or_nought d hd
    have HR := hid hr
    clear h hx ex hy ey hlt hr e19 hsum ht4 ht4l ha hb hc hd h1 h2 h3 h4
    go_enter Try.func30, Try.ntmps30
    go_wp2_with fail
    refine (HS.out _).mono ?_
    rintro e w1 ⟨rfl, hb1⟩
    have h0 := block_below hb1 (k := w.heap.size) (by simp <;> omega) (blkA (blkN rfl (e4 a b c d) ET) (.cells (e4 0 0 0 0) ET))
    have h9 := block_below hb1 (k := w.heap.size + 1) (by simp <;> omega) (blkN (w := w.alloc (.cells (e4 a b c d) ET)) (by simp) (e4 0 0 0 0) ET)
    have hbb : Below w.heap.size w w1 := (((Below.refl _ _).alloc (Nat.le_refl _) _).alloc (by simp) _).trans (hb1.mono (by simp; omega))
    have hsz : w.heap.size + 2 ≤ w1.heap.size := by have := hb1.size; simpa using this
    have c0 : ∀ o, (w1.alloc o).cell? ⟨w.heap.size, 0, none⟩ = some (.int .u64 (a : Int)) := fun o => cell_of (blkA h0 o) 0 _ rfl
    have c1 : ∀ o, (w1.alloc o).cell? ⟨w.heap.size, 1, none⟩ = some (.int .u64 (b : Int)) := fun o => cell_of (blkA h0 o) 1 _ rfl
    have c2 : ∀ o, (w1.alloc o).cell? ⟨w.heap.size, 2, none⟩ = some (.int .u64 (c : Int)) := fun o => cell_of (blkA h0 o) 2 _ rfl
    have c3 : ∀ o, (w1.alloc o).cell? ⟨w.heap.size, 3, none⟩ = some (.int .u64 (d : Int)) := fun o => cell_of (blkA h0 o) 3 _ rfl
    have HB := hid hbb; have HSZ := hid hsz; have H9 := hid h9; have H0 := hid h0
    clear hb1 hbb hsz h9 h0
    go_wp2_with (with_reducible refine wpList_store_row rfl ET (.tmp 2) _ rfl (w.heap.size + 1) (e4 a b c d) rfl rfl ET (e4 0 0 0 0) (blkA H9.out _) (infoE4 _ _ _ _) (sizeE4 _ _ _ _ _ _ _ _) (e4_one _ _ _ _) ?_)
    refine bodyPost_ret (v := .agg (e4 a b c d)) (results_cell_row rfl _ _ (w.heap.size + 1) ET _ (0, 0) _ rfl (setRow_heap _ _ _ _ _ _ (blkA H9.out _)) Try.underlying33 rfl infoE) rfl ⟨by rw [HR.out], ?_⟩
    exact belowRow (HB.out.alloc (by have := HSZ.out; omega) _) (by omega) _
  · have hr : eA (x % 57896044618658097711785492504343953926634992332820282019728792003956564819949) = e4 s1 s2 s3 t4 := by
      rw [← eA_of s1 s2 s3 t4 h1 h2 h3 ht4l]
      congr 1
      omega
    have hsh : (s4 : Int) / 9223372036854775808 = 1 := by omega
    have hk : IntKind.u64.wrap 0 = 0 := by rw [IntKind.wrap_u64]; omega
    have a1 := and_nought a ha; have a2 := and_nought b hb; have a3 := and_nought c hc; have a4 := and_nought d hd
    have n1 := andNot_nought s1 h1; have n2 := andNot_nought s2 h2; have n3 := andNot_nought s3 h3; have n4 := andNot_nought t4 ht4l
    have r1 := nought_or s1 h1; have r2 := nought_or s2 h2; have r3 := nought_or s3 h3; have r4 := nought_or t4 ht4l
    have HR := hid hr
    clear h hx ex hy ey hlt hr e19 hsum ht4 ht4l ha hb hc hd h1 h2 h3 h4
    go_enter Try.func30, Try.ntmps30
    go_wp2_with fail
    refine (HS.out _).mono ?_
    rintro e w1 ⟨rfl, hb1⟩
    have h0 := block_below hb1 (k := w.heap.size) (by simp <;> omega) (blkA (blkN rfl (e4 a b c d) ET) (.cells (e4 0 0 0 0) ET))
    have h9 := block_below hb1 (k := w.heap.size + 1) (by simp <;> omega) (blkN (w := w.alloc (.cells (e4 a b c d) ET)) (by simp) (e4 0 0 0 0) ET)
    have hbb : Below w.heap.size w w1 := (((Below.refl _ _).alloc (Nat.le_refl _) _).alloc (by simp) _).trans (hb1.mono (by simp; omega))
    have hsz : w.heap.size + 2 ≤ w1.heap.size := by have := hb1.size; simpa using this
    have c0 : ∀ o, (w1.alloc o).cell? ⟨w.heap.size, 0, none⟩ = some (.int .u64 (a : Int)) := fun o => cell_of (blkA h0 o) 0 _ rfl
    have c1 : ∀ o, (w1.alloc o).cell? ⟨w.heap.size, 1, none⟩ = some (.int .u64 (b : Int)) := fun o => cell_of (blkA h0 o) 1 _ rfl
    have c2 : ∀ o, (w1.alloc o).cell? ⟨w.heap.size, 2, none⟩ = some (.int .u64 (c : Int)) := fun o => cell_of (blkA h0 o) 2 _ rfl
    have c3 : ∀ o, (w1.alloc o).cell? ⟨w.heap.size, 3, none⟩ = some (.int .u64 (d : Int)) := fun o => cell_of (blkA h0 o) 3 _ rfl
    have HB := hid hbb; have HSZ := hid hsz; have H9 := hid h9; have H0 := hid h0
    clear hb1 hbb hsz h9 h0
    go_wp2_with (with_reducible refine wpList_store_row rfl ET (.tmp 2) _ rfl (w.heap.size + 1) (e4 s1 s2 s3 t4) rfl rfl ET (e4 0 0 0 0) (blkA H9.out _) (infoE4 _ _ _ _) (sizeE4 _ _ _ _ _ _ _ _) (e4_one _ _ _ _) ?_)
    refine bodyPost_ret (v := .agg (e4 s1 s2 s3 t4)) (results_cell_row rfl _ _ (w.heap.size + 1) ET _ (0, 0) _ rfl (setRow_heap _ _ _ _ _ _ (blkA H9.out _)) Try.underlying33 rfl infoE) rfl ⟨by rw [HR.out], ?_⟩
    exact belowRow (HB.out.alloc (by have := HSZ.out; omega) _) (by omega) _
end Go.Proofs.Ytodimbmjbjioaaa
