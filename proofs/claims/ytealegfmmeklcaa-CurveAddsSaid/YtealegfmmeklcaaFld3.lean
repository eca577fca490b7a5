/-
  Package field: numbers as four words; sums, what is missing.
  Package field: a word times a number, and more.
  Package field: a product, in its lower and its upper words.
-/
import Derived.Test.YtealegfmmeklcaaM64
import Derived.Test.YtealegfmmeklcaaQuiT
import Derived.Test.YtealegfmmeklcaaFldP
import Derived.Test.YtealegfmmeklcaaRow4
import Derived.Test.YtealegfmmeklcaaStepR
namespace Go.Proofs.Ytealegfmmeklcaa
section
open Go.RowKit
set_option linter.unusedVariables false
set_option linter.unusedSimpArgs false

abbrev ET : TypeId := 26
theorem infoE : (Try.prog.info? 26).map (·.size) = some 4 := by kernel_rfl
theorem infoE4 (a b c d : Nat) : (Try.prog.info? 26).map (·.size) = some (e4 a b c d).size := infoE


theorem Num_e (n : Nat) (w : World) (hn : n < 18446744073709551616) :
    Calls Try.prog 57 #[.int .u64 (n : Int)] w fun e w' => e = .returned (.agg (eA n)) ∧ Below w.heap.size w w' := by
  have h : eA n = e4 n 0 0 0 := by have h := eA_of n 0 0 0 hn (by omega) (by omega) (by omega); simpa using h
  go_enter Try.func57, Try.ntmps57
  go_wp2
  refine bodyPost_ret (v := .agg (e4 n 0 0 0)) (results_cell_row rfl _ _ w.heap.size ET _ (0, 0) _ rfl (blkN rfl _ _) Try.underlying26 rfl infoE) rfl ⟨by rw [h], ?_⟩
  exact (Below.refl _ _).alloc (Nat.le_refl _) _

theorem sum_e (x y : Nat) (w : World) (h : x + y < 115792089237316195423570985008687907853269984665640564039457584007913129639936) :
    Calls Try.prog 81 #[.agg (eA x), .agg (eA y)] w fun e w' => e = .returned (.agg (eA (x + y))) ∧ Below w.heap.size w w' := by
  obtain ⟨a, b, c, d, ha, hb, hc, hd, hx, ex⟩ := words x (by omega)
  obtain ⟨a', b', c', d', ha', hb', hc', hd', hy, ey⟩ := words y (by omega)
  rw [ex, ey]
  have h1 := Add64_run a a'
  obtain ⟨s1, hs1⟩ : ∃ s, s = (a + a') % 18446744073709551616 := ⟨_, rfl⟩
  obtain ⟨o1, ho1⟩ : ∃ o, o = (a + a') / 18446744073709551616 := ⟨_, rfl⟩
  rw [← hs1, ← ho1] at h1
  have h2 := Add64_c b b' o1 (by omega)
  obtain ⟨s2, hs2⟩ : ∃ s, s = (b + b' + o1) % 18446744073709551616 := ⟨_, rfl⟩
  obtain ⟨o2, ho2⟩ : ∃ o, o = (b + b' + o1) / 18446744073709551616 := ⟨_, rfl⟩
  rw [← hs2, ← ho2] at h2
  have h3 := Add64_c c c' o2 (by omega)
  obtain ⟨s3, hs3⟩ : ∃ s, s = (c + c' + o2) % 18446744073709551616 := ⟨_, rfl⟩
  obtain ⟨o3, ho3⟩ : ∃ o, o = (c + c' + o2) / 18446744073709551616 := ⟨_, rfl⟩
  rw [← hs3, ← ho3] at h3
  obtain ⟨s4, hs4⟩ : ∃ s, s = d + d' + o3 := ⟨_, rfl⟩
  have hs4l : s4 < 18446744073709551616 := by omega
  have w1 : IntKind.u64.wrap ((d' : Int) + (o3 : Int)) = (d' : Int) + (o3 : Int) := by rw [IntKind.wrap_u64]; omega
  have w2 : IntKind.u64.wrap ((d : Int) + ((d' : Int) + (o3 : Int))) = (s4 : Int) := by rw [IntKind.wrap_u64]; omega
  have hv : x + y = s1 + 18446744073709551616 * s2 + 340282366920938463463374607431768211456 * s3 + 6277101735386680763835789423207666416102355444464034512896 * s4 := by omega
  have he : eA (x + y) = e4 s1 s2 s3 s4 := by rw [hv]; exact eA_of _ _ _ _ (by omega) (by omega) (by omega) hs4l
  have HE := hid he
  clear h hx hy ex ey hs1 ho1 hs2 ho2 hs3 ho3 hs4 hv he ha hb hc hd ha' hb' hc' hd' hs4l
  go_enter Try.func81, Try.ntmps81
  go_wp2
  refine bodyPost_ret (v := .agg (e4 s1 s2 s3 s4)) (results_cell_row rfl _ _ (w.heap.size + 1 + 1) ET _ (0, 0) _ rfl (blkN (by simp) _ _) Try.underlying26 rfl infoE) rfl ⟨by rw [HE.out], ?_⟩
  exact (((Below.refl _ _).alloc (Nat.le_refl _) _).alloc (by simp) _).alloc (by simp; omega) _

theorem missing_e (x : Nat) (w : World) (h : x ≤ pp) :
    Calls Try.prog 79 #[.agg (eA x)] w fun e w' => e = .returned (.agg (eA (pp - x))) ∧ Below w.heap.size w w' := by
  rw [pp_def] at *
  obtain ⟨a, b, c, d, ha, hb, hc, hd, hx, ex⟩ := words x (by omega)
  rw [ex]
  have h1 := Sub64_c 18446744073709551597 a 0 (by omega)
  obtain ⟨s1, hs1⟩ : ∃ s, s = (18446744073709551597 + 18446744073709551616 - a - 0) % 18446744073709551616 := ⟨_, rfl⟩
  obtain ⟨o1, ho1⟩ : ∃ o, o = (if 18446744073709551597 < a + 0 then 1 else 0) := ⟨_, rfl⟩
  rw [← hs1, ← ho1] at h1
  have lo1 : o1 ≤ 1 ∧ s1 + a = 18446744073709551597 + 18446744073709551616 * o1 ∧ s1 < 18446744073709551616 := by rw [hs1, ho1]; split <;> omega
  have h2 := Sub64_c 18446744073709551615 b o1 lo1.1
  obtain ⟨s2, hs2⟩ : ∃ s, s = (18446744073709551615 + 18446744073709551616 - b - o1) % 18446744073709551616 := ⟨_, rfl⟩
  obtain ⟨o2, ho2⟩ : ∃ o, o = (if 18446744073709551615 < b + o1 then 1 else 0) := ⟨_, rfl⟩
  rw [← hs2, ← ho2] at h2
  have lo2 : o2 ≤ 1 ∧ s2 + b + o1 = 18446744073709551615 + 18446744073709551616 * o2 ∧ s2 < 18446744073709551616 := by rw [hs2, ho2]; split <;> omega
  have h3 := Sub64_c 18446744073709551615 c o2 lo2.1
  obtain ⟨s3, hs3⟩ : ∃ s, s = (18446744073709551615 + 18446744073709551616 - c - o2) % 18446744073709551616 := ⟨_, rfl⟩
  obtain ⟨o3, ho3⟩ : ∃ o, o = (if 18446744073709551615 < c + o2 then 1 else 0) := ⟨_, rfl⟩
  rw [← hs3, ← ho3] at h3
  have lo3 : o3 ≤ 1 ∧ s3 + c + o2 = 18446744073709551615 + 18446744073709551616 * o3 ∧ s3 < 18446744073709551616 := by rw [hs3, ho3]; split <;> omega
  have h1' : ∀ W : World, (callFunc 91 #[.int .u64 18446744073709551597, .int .u64 (a : Int), .int .u64 0]).run Try.prog W = .ok (.value (.tuple #[.int .u64 (s1 : Int), .int .u64 (o1 : Int)])) W := h1
  have h2' : ∀ W : World, (callFunc 91 #[.int .u64 18446744073709551615, .int .u64 (b : Int), .int .u64 (o1 : Int)]).run Try.prog W = .ok (.value (.tuple #[.int .u64 (s2 : Int), .int .u64 (o2 : Int)])) W := h2
  have h3' : ∀ W : World, (callFunc 91 #[.int .u64 18446744073709551615, .int .u64 (c : Int), .int .u64 (o2 : Int)]).run Try.prog W = .ok (.value (.tuple #[.int .u64 (s3 : Int), .int .u64 (o3 : Int)])) W := h3
  clear h1 h2 h3 hs1 ho1 hs2 ho2 hs3 ho3
  obtain ⟨s4, hs4⟩ : ∃ s, s = 9223372036854775807 - d - o3 := ⟨_, rfl⟩
  have hd4 : d + o3 ≤ 9223372036854775807 := by omega
  have hs4l : s4 < 18446744073709551616 := by omega
  have w1 : IntKind.u64.wrap (9223372036854775807 - (d : Int)) = 9223372036854775807 - (d : Int) := by rw [IntKind.wrap_u64]; omega
  have w2 : IntKind.u64.wrap (9223372036854775807 - (d : Int) - (o3 : Int)) = (s4 : Int) := by rw [IntKind.wrap_u64]; omega
  have hv : 57896044618658097711785492504343953926634992332820282019728792003956564819949 - x = s1 + 18446744073709551616 * s2 + 340282366920938463463374607431768211456 * s3 + 6277101735386680763835789423207666416102355444464034512896 * s4 := by omega
  have he : eA (57896044618658097711785492504343953926634992332820282019728792003956564819949 - x) = e4 s1 s2 s3 s4 := by rw [hv]; exact eA_of _ _ _ _ lo1.2.2 lo2.2.2 lo3.2.2 hs4l
  have HE := hid he
  clear h hx ex lo1 lo2 lo3 hs4 hv he ha hb hc hd hs4l hd4
  go_enter Try.func79, Try.ntmps79
  go_wp2
  refine bodyPost_ret (v := .agg (e4 s1 s2 s3 s4)) (results_cell_row rfl _ _ (w.heap.size + 1) ET _ (0, 0) _ rfl (blkN (by simp) _ _) Try.underlying26 rfl infoE) rfl ⟨by rw [HE.out], ?_⟩
  exact ((Below.refl _ _).alloc (Nat.le_refl _) _).alloc (by simp) _

theorem below_e (x : Nat) (w : World) (h : x < 2 * pp) :
    Calls Try.prog 76 #[.agg (eA x)] w fun e w' => e = .returned (.agg (eA (x % pp))) ∧ Below w.heap.size w w' := by
  rw [pp_def] at *
  obtain ⟨a, b, c, d, ha, hb, hc, hd, hx, ex⟩ := words x (by omega)
  obtain ⟨s1, s2, s3, s4, h1, h2, h3, h4, hy, ey⟩ := words (x + 19) (by omega)
  have hsum := fun W => sum_e x 19 W (by omega)
  have e19 : eA 19 = e4 19 0 0 0 := by have h := eA_of 19 0 0 0 (by omega) (by omega) (by omega) (by omega); simpa using h
  rw [ex, ey, e19] at hsum
  rw [ex]
  have HS := hid hsum
  obtain ⟨t4, ht4⟩ : ∃ t, t = s4 % 9223372036854775808 := ⟨_, rfl⟩
  have ht4l : t4 < 18446744073709551616 := by omega
  have b4 : bits .and .u64 (s4 : Int) 9223372036854775807 = (t4 : Int) := by rw [and_top s4 h4, ht4]
  by_cases hlt : x < 57896044618658097711785492504343953926634992332820282019728792003956564819949
  · have hr : eA (x % 57896044618658097711785492504343953926634992332820282019728792003956564819949) = e4 a b c d := by rw [Nat.mod_eq_of_lt hlt, ex]
    have hsh : (s4 : Int) / 9223372036854775808 = 0 := by omega
    have hk : IntKind.u64.wrap (-1) = 18446744073709551615 := by rw [IntKind.wrap_u64]; omega
    have a1 := and_ones a ha; have a2 := and_ones b hb; have a3 := and_ones c hc; have a4 := and_ones d hd
    have n1 := andNot_ones s1 h1; have n2 := andNot_ones s2 h2; have n3 := andNot_ones s3 h3; have n4 := andNot_ones t4 ht4l
    have r1 := or_nought a ha; have r2 := or_nought b hb; have r3 := or_nought c hc; have r4 := or_nought d hd
    have HR := hid hr
    clear h hx ex hy ey hlt hr e19 hsum ht4 ht4l ha hb hc hd h1 h2 h3 h4
    go_enter Try.func76, Try.ntmps76
    go_wp2_with fail
    refine (HS.out _).mono ?_
    rintro e w1 ⟨rfl, hb1⟩
    have h0 := block_below hb1 (k := w.heap.size) (by simp <;> omega) (blkA (blkN rfl (e4 a b c d) ET) (.cells (e4 0 0 0 0) ET))
    have h9 := block_below hb1 (k := w.heap.size + 1) (by simp <;> omega) (blkN (w := w.alloc (.cells (e4 a b c d) ET)) (by simp) (e4 0 0 0 0) ET)
    have hbb : Below w.heap.size w w1 := (((Below.refl _ _).alloc (Nat.le_refl _) _).alloc (by simp) _).trans (hb1.mono (by simp; omega))
    have hsz : w.heap.size + 2 ≤ w1.heap.size := by have := hb1.size; simpa using this
    have c0 : ∀ o, (w1.alloc o).cell? ⟨w.heap.size, 0, none⟩ = some (.int .u64 (a : Int)) := fun o => cell_of (blkA h0 o) 0 _ rfl
    have c1 : ∀ o, (w1.alloc o).cell? ⟨w.heap.size, 1, none⟩ = some (.int .u64 (b : Int)) := fun o => cell_of (blkA h0 o) 1 _ rfl
    have c2 : ∀ o, (w1.alloc o).cell? ⟨w.heap.size, 2, none⟩ = some (.int .u64 (c : Int)) := fun o => cell_of (blkA h0 o) 2 _ rfl
    have c3 : ∀ o, (w1.alloc o).cell? ⟨w.heap.size, 3, none⟩ = some (.int .u64 (d : Int)) := fun o => cell_of (blkA h0 o) 3 _ rfl
    have HB := hid hbb; have HSZ := hid hsz; have H9 := hid h9; have H0 := hid h0
    clear hb1 hbb hsz h9 h0
    go_wp2_with (with_reducible refine wpList_store_row rfl ET (.tmp 2) _ rfl (w.heap.size + 1) (e4 a b c d) rfl rfl ET (e4 0 0 0 0) (blkA H9.out _) (infoE4 _ _ _ _) (sizeE4 _ _ _ _ _ _ _ _) (e4_one _ _ _ _) ?_)
    refine bodyPost_ret (v := .agg (e4 a b c d)) (results_cell_row rfl _ _ (w.heap.size + 1) ET _ (0, 0) _ rfl (setRow_heap _ _ _ _ _ _ (blkA H9.out _)) Try.underlying26 rfl infoE) rfl ⟨by rw [HR.out], ?_⟩
    exact belowRow (HB.out.alloc (by have := HSZ.out; omega) _) (by omega) _
  · have hr : eA (x % 57896044618658097711785492504343953926634992332820282019728792003956564819949) = e4 s1 s2 s3 t4 := by
      rw [← eA_of s1 s2 s3 t4 h1 h2 h3 ht4l]
      congr 1
      omega
    have hsh : (s4 : Int) / 9223372036854775808 = 1 := by omega
    have hk : IntKind.u64.wrap 0 = 0 := by rw [IntKind.wrap_u64]; omega
    have a1 := and_nought a ha; have a2 := and_nought b hb; have a3 := and_nought c hc; have a4 := and_nought d hd
    have n1 := andNot_nought s1 h1; have n2 := andNot_nought s2 h2; have n3 := andNot_nought s3 h3; have n4 := andNot_nought t4 ht4l
    have r1 := nought_or s1 h1; have r2 := nought_or s2 h2; have r3 := nought_or s3 h3; have r4 := nought_or t4 ht4l
    have HR := hid hr
    clear h hx ex hy ey hlt hr e19 hsum ht4 ht4l ha hb hc hd h1 h2 h3 h4
    go_enter Try.func76, Try.ntmps76
    go_wp2_with fail
    refine (HS.out _).mono ?_
    rintro e w1 ⟨rfl, hb1⟩
    have h0 := block_below hb1 (k := w.heap.size) (by simp <;> omega) (blkA (blkN rfl (e4 a b c d) ET) (.cells (e4 0 0 0 0) ET))
    have h9 := block_below hb1 (k := w.heap.size + 1) (by simp <;> omega) (blkN (w := w.alloc (.cells (e4 a b c d) ET)) (by simp) (e4 0 0 0 0) ET)
    have hbb : Below w.heap.size w w1 := (((Below.refl _ _).alloc (Nat.le_refl _) _).alloc (by simp) _).trans (hb1.mono (by simp; omega))
    have hsz : w.heap.size + 2 ≤ w1.heap.size := by have := hb1.size; simpa using this
    have c0 : ∀ o, (w1.alloc o).cell? ⟨w.heap.size, 0, none⟩ = some (.int .u64 (a : Int)) := fun o => cell_of (blkA h0 o) 0 _ rfl
    have c1 : ∀ o, (w1.alloc o).cell? ⟨w.heap.size, 1, none⟩ = some (.int .u64 (b : Int)) := fun o => cell_of (blkA h0 o) 1 _ rfl
    have c2 : ∀ o, (w1.alloc o).cell? ⟨w.heap.size, 2, none⟩ = some (.int .u64 (c : Int)) := fun o => cell_of (blkA h0 o) 2 _ rfl
    have c3 : ∀ o, (w1.alloc o).cell? ⟨w.heap.size, 3, none⟩ = some (.int .u64 (d : Int)) := fun o => cell_of (blkA h0 o) 3 _ rfl
    have HB := hid hbb; have HSZ := hid hsz; have H9 := hid h9; have H0 := hid h0
    clear hb1 hbb hsz h9 h0
    go_wp2_with (with_reducible refine wpList_store_row rfl ET (.tmp 2) _ rfl (w.heap.size + 1) (e4 s1 s2 s3 t4) rfl rfl ET (e4 0 0 0 0) (blkA H9.out _) (infoE4 _ _ _ _) (sizeE4 _ _ _ _ _ _ _ _) (e4_one _ _ _ _) ?_)
    refine bodyPost_ret (v := .agg (e4 s1 s2 s3 t4)) (results_cell_row rfl _ _ (w.heap.size + 1) ET _ (0, 0) _ rfl (setRow_heap _ _ _ _ _ _ (blkA H9.out _)) Try.underlying26 rfl infoE) rfl ⟨by rw [HR.out], ?_⟩
    exact belowRow (HB.out.alloc (by have := HSZ.out; omega) _) (by omega) _
end

section
open Go.RowKit
set_option linter.unusedVariables false
set_option linter.unusedSimpArgs false

/-- A slot and a cell as results. -/
theorem results_tmp_cell {fn : Func} {q p : Tmp} {ty : TypeId} (h : fn.results = #[.tmp q, .cell p ty]) (tmps : Array Value) (w : World) (a : Addr) (u v : Value) {P : Program}
    (hv : tmps.getD q undef = v) (hp : tmps.getD p undef = .pointer (some a)) (hl : (loadVar ty a).run P w = .ok u w) :
    (results fn tmps).run P w = .ok (.tuple #[v, u]) w := by
  have hv' : tmps[q]?.getD undef = v := by rw [← hv]; simp [Array.getD_eq_getD_getElem?]
  have hp' : tmps[p]?.getD undef = .pointer (some a) := by rw [← hp]; simp [Array.getD_eq_getD_getElem?]
  simp [results, h, hv', hp', asAddr, hl]
theorem load_e {w : World} {g : Nat} {a b c d : Nat} {t : TypeId} (h : w.heap[g]? = some (.cells (e4 a b c d) t (0, 0))) : (loadVar ET ⟨g, 0, none⟩).run Try.prog w = .ok (.agg (e4 a b c d)) w :=
  run_loadVar_row w g t ET _ (0, 0) _ h Try.underlying26 rfl infoE

theorem row_low {p0 p1 p2 p3 l0 l1 l2 l3 h0 h1 h2 h3 n1 n2 n3 k1 k2 k3 : Nat} (e0 : p0 = l0 + 18446744073709551616 * h0) (e1 : p1 = l1 + 18446744073709551616 * h1) (e2 : p2 = l2 + 18446744073709551616 * h2) (e3 : p3 = l3 + 18446744073709551616 * h3)
    (f1 : n1 + 18446744073709551616 * k1 = l1 + h0) (f2 : n2 + 18446744073709551616 * k2 = l2 + h1 + k1) (f3 : n3 + 18446744073709551616 * k3 = l3 + h2 + k2) :
    p0 + 18446744073709551616 * p1 + 340282366920938463463374607431768211456 * p2 + 6277101735386680763835789423207666416102355444464034512896 * p3 = l0 + 18446744073709551616 * n1 + 340282366920938463463374607431768211456 * n2 + 6277101735386680763835789423207666416102355444464034512896 * n3 + 115792089237316195423570985008687907853269984665640564039457584007913129639936 * (h3 + k3) := by
  omega
theorem row_high {z m l0 n1 n2 n3 n4 a' b' c' d' r0 r1 r2 r3 j0 j1 j2 j3 : Nat} (hz : z = l0 + 18446744073709551616 * n1 + 340282366920938463463374607431768211456 * n2 + 6277101735386680763835789423207666416102355444464034512896 * n3 + 115792089237316195423570985008687907853269984665640564039457584007913129639936 * n4)
    (hm : m = a' + 18446744073709551616 * b' + 340282366920938463463374607431768211456 * c' + 6277101735386680763835789423207666416102355444464034512896 * d')
    (i0 : r0 + 18446744073709551616 * j0 = l0 + a') (i1 : r1 + 18446744073709551616 * j1 = n1 + b' + j0) (i2 : r2 + 18446744073709551616 * j2 = n2 + c' + j1) (i3 : r3 + 18446744073709551616 * j3 = n3 + d' + j2) :
    z + m = r0 + 18446744073709551616 * (r1 + 18446744073709551616 * r2 + 340282366920938463463374607431768211456 * r3 + 6277101735386680763835789423207666416102355444464034512896 * (n4 + j3)) := by
  omega
theorem div_mod_sum {p l h : Nat} (hl : l = p % 18446744073709551616) (hh : h = p / 18446744073709551616) : p = l + 18446744073709551616 * h := by omega
theorem carry_sum {r j t : Nat} (hr : r = t % 18446744073709551616) (hj : j = t / 18446744073709551616) : r + 18446744073709551616 * j = t := by omega
theorem carry_le {j a b c : Nat} (hj : j = (a + b + c) / 18446744073709551616) (ha : a < 18446744073709551616) (hb : b < 18446744073709551616) (hc : c ≤ 1) : j ≤ 1 := by omega
theorem carry_le2 {j a b : Nat} (hj : j = (a + b) / 18446744073709551616) (ha : a < 18446744073709551616) (hb : b < 18446744073709551616) : j ≤ 1 := by omega
theorem rest_lt {r t : Nat} (hr : r = t % 18446744073709551616) : r < 18446744073709551616 := by omega
theorem high_lt {h p : Nat} (hh : h = p / 18446744073709551616) (hp : p ≤ 18446744073709551615 * 18446744073709551615) : h < 18446744073709551616 := by omega
theorem wrap_sum {a b c : Nat} (h : c = a + b) (hc : c < 18446744073709551616) : IntKind.u64.wrap ((a : Int) + (b : Int)) = (c : Int) := by rw [IntKind.wrap_u64]; omega
theorem row_lt {z a b c d n : Nat} (h : z = a + 18446744073709551616 * b + 340282366920938463463374607431768211456 * c + 6277101735386680763835789423207666416102355444464034512896 * d + 115792089237316195423570985008687907853269984665640564039457584007913129639936 * n)
    (hle : z ≤ 18446744073709551615 * 115792089237316195423570985008687907853269984665640564039457584007913129639935) : n < 18446744073709551616 := by omega
theorem row_lt2 {z m a b c d n : Nat} (h : z + m = a + 18446744073709551616 * (b + 18446744073709551616 * c + 340282366920938463463374607431768211456 * d + 6277101735386680763835789423207666416102355444464034512896 * n))
    (hle : z ≤ 18446744073709551615 * 115792089237316195423570985008687907853269984665640564039457584007913129639935) (hm : m < 115792089237316195423570985008687907853269984665640564039457584007913129639936) : n < 18446744073709551616 := by omega
theorem row_cut {t r0 q : Nat} (h : t = r0 + 18446744073709551616 * q) (h0 : r0 < 18446744073709551616) : t % 18446744073709551616 = r0 ∧ t / 18446744073709551616 = q := by
  constructor <;> omega

set_option maxHeartbeats 1000000 in
theorem row_e (x y m : Nat) (w : World) (hx : x < 18446744073709551616) (hy : y < 115792089237316195423570985008687907853269984665640564039457584007913129639936) (hm : m < 115792089237316195423570985008687907853269984665640564039457584007913129639936) :
    Calls Try.prog 95 #[.int .u64 (x : Int), .agg (eA y), .agg (eA m)] w fun e w' => e = .returned (.tuple #[.int .u64 (((x * y + m) % 18446744073709551616 : Nat) : Int), .agg (eA ((x * y + m) / 18446744073709551616))]) ∧ Below w.heap.size w w' := by
  obtain ⟨a, b, c, d, ha, hb, hc, hd, hya, ey⟩ := words y hy
  obtain ⟨a', b', c', d', ha', hb', hc', hd', hma, em⟩ := words m hm
  have hxy : x * y = x * a + 18446744073709551616 * (x * b) + 340282366920938463463374607431768211456 * (x * c) + 6277101735386680763835789423207666416102355444464034512896 * (x * d) := by
    rw [hya, Nat.mul_add, Nat.mul_add, Nat.mul_add, Nat.mul_left_comm x, Nat.mul_left_comm x, Nat.mul_left_comm x]
  have hle : x * y ≤ 18446744073709551615 * 115792089237316195423570985008687907853269984665640564039457584007913129639935 := Nat.mul_le_mul (by omega) (by omega)
  obtain ⟨z, hz⟩ : ∃ z, z = x * y := ⟨_, rfl⟩
  rw [← hz] at hxy hle ⊢
  rw [ey, em]
  have m0 := Mul64_any x a hx ha
  have m1 := Mul64_any x b hx hb
  have m2 := Mul64_any x c hx hc
  have m3 := Mul64_any x d hx hd
  obtain ⟨p0, hp0⟩ : ∃ p, p = x * a := ⟨_, rfl⟩
  obtain ⟨p1, hp1⟩ : ∃ p, p = x * b := ⟨_, rfl⟩
  obtain ⟨p2, hp2⟩ : ∃ p, p = x * c := ⟨_, rfl⟩
  obtain ⟨p3, hp3⟩ : ∃ p, p = x * d := ⟨_, rfl⟩
  rw [← hp0] at m0 hxy
  rw [← hp1] at m1 hxy
  rw [← hp2] at m2 hxy
  rw [← hp3] at m3 hxy
  have q0 : p0 ≤ 18446744073709551615 * 18446744073709551615 := by rw [hp0]; exact Nat.mul_le_mul (by omega) (by omega)
  have q1 : p1 ≤ 18446744073709551615 * 18446744073709551615 := by rw [hp1]; exact Nat.mul_le_mul (by omega) (by omega)
  have q2 : p2 ≤ 18446744073709551615 * 18446744073709551615 := by rw [hp2]; exact Nat.mul_le_mul (by omega) (by omega)
  have q3 : p3 ≤ 18446744073709551615 * 18446744073709551615 := by rw [hp3]; exact Nat.mul_le_mul (by omega) (by omega)
  clear hp0 hp1 hp2 hp3 hz
  obtain ⟨h0, hh0⟩ : ∃ h, h = p0 / 18446744073709551616 := ⟨_, rfl⟩
  obtain ⟨l0, hl0⟩ : ∃ l, l = p0 % 18446744073709551616 := ⟨_, rfl⟩
  rw [← hh0, ← hl0] at m0
  obtain ⟨h1, hh1⟩ : ∃ h, h = p1 / 18446744073709551616 := ⟨_, rfl⟩
  obtain ⟨l1, hl1⟩ : ∃ l, l = p1 % 18446744073709551616 := ⟨_, rfl⟩
  rw [← hh1, ← hl1] at m1
  obtain ⟨h2, hh2⟩ : ∃ h, h = p2 / 18446744073709551616 := ⟨_, rfl⟩
  obtain ⟨l2, hl2⟩ : ∃ l, l = p2 % 18446744073709551616 := ⟨_, rfl⟩
  rw [← hh2, ← hl2] at m2
  obtain ⟨h3, hh3⟩ : ∃ h, h = p3 / 18446744073709551616 := ⟨_, rfl⟩
  obtain ⟨l3, hl3⟩ : ∃ l, l = p3 % 18446744073709551616 := ⟨_, rfl⟩
  rw [← hh3, ← hl3] at m3
  have hl0l : l0 < 18446744073709551616 := rest_lt hl0
  have hl1l : l1 < 18446744073709551616 := rest_lt hl1
  have hl2l : l2 < 18446744073709551616 := rest_lt hl2
  have hl3l : l3 < 18446744073709551616 := rest_lt hl3
  have e0 : p0 = l0 + 18446744073709551616 * h0 := div_mod_sum hl0 hh0
  have e1 : p1 = l1 + 18446744073709551616 * h1 := div_mod_sum hl1 hh1
  have e2 : p2 = l2 + 18446744073709551616 * h2 := div_mod_sum hl2 hh2
  have e3 : p3 = l3 + 18446744073709551616 * h3 := div_mod_sum hl3 hh3
  have hh0b : h0 < 18446744073709551616 := high_lt hh0 q0
  have hh1b : h1 < 18446744073709551616 := high_lt hh1 q1
  have hh2b : h2 < 18446744073709551616 := high_lt hh2 q2
  clear hh0 hl0 hh1 hl1 hh2 hl2 hh3 hl3 q3 q0 q1 q2
  have A1 := Add64_run l1 h0
  obtain ⟨n1, hn1⟩ : ∃ s, s = (l1 + h0) % 18446744073709551616 := ⟨_, rfl⟩
  obtain ⟨k1, hk1⟩ : ∃ s, s = (l1 + h0) / 18446744073709551616 := ⟨_, rfl⟩
  rw [← hn1, ← hk1] at A1
  have bk1 := carry_le2 hk1 hl1l hh0b
  have A2 := Add64_c l2 h1 k1 bk1
  obtain ⟨n2, hn2⟩ : ∃ s, s = (l2 + h1 + k1) % 18446744073709551616 := ⟨_, rfl⟩
  obtain ⟨k2, hk2⟩ : ∃ s, s = (l2 + h1 + k1) / 18446744073709551616 := ⟨_, rfl⟩
  rw [← hn2, ← hk2] at A2
  have bk2 := carry_le hk2 hl2l hh1b bk1
  have A3 := Add64_c l3 h2 k2 bk2
  obtain ⟨n3, hn3⟩ : ∃ s, s = (l3 + h2 + k2) % 18446744073709551616 := ⟨_, rfl⟩
  obtain ⟨k3, hk3⟩ : ∃ s, s = (l3 + h2 + k2) / 18446744073709551616 := ⟨_, rfl⟩
  rw [← hn3, ← hk3] at A3
  obtain ⟨n4, hn4⟩ : ∃ s, s = h3 + k3 := ⟨_, rfl⟩
  have f1 : n1 + 18446744073709551616 * k1 = l1 + h0 := carry_sum hn1 hk1
  have f2 : n2 + 18446744073709551616 * k2 = l2 + h1 + k1 := carry_sum hn2 hk2
  have f3 : n3 + 18446744073709551616 * k3 = l3 + h2 + k2 := carry_sum hn3 hk3
  have g1 : n1 < 18446744073709551616 ∧ n2 < 18446744073709551616 ∧ n3 < 18446744073709551616 := ⟨rest_lt hn1, rest_lt hn2, rest_lt hn3⟩
  clear hn1 hk1 hn2 hk2 hn3 hk3
  have hz2 := row_low e0 e1 e2 e3 f1 f2 f3
  rw [← hxy, ← hn4] at hz2
  have g4 : n4 < 18446744073709551616 := row_lt hz2 hle
  have w1 : IntKind.u64.wrap ((h3 : Int) + (k3 : Int)) = (n4 : Int) := wrap_sum hn4 g4
  have B0 := Add64_run l0 a'
  obtain ⟨r0, hr0⟩ : ∃ s, s = (l0 + a') % 18446744073709551616 := ⟨_, rfl⟩
  obtain ⟨j0, hj0⟩ : ∃ s, s = (l0 + a') / 18446744073709551616 := ⟨_, rfl⟩
  rw [← hr0, ← hj0] at B0
  have bj0 := carry_le2 hj0 hl0l ha'
  have B1 := Add64_c n1 b' j0 bj0
  obtain ⟨r1, hr1⟩ : ∃ s, s = (n1 + b' + j0) % 18446744073709551616 := ⟨_, rfl⟩
  obtain ⟨j1, hj1⟩ : ∃ s, s = (n1 + b' + j0) / 18446744073709551616 := ⟨_, rfl⟩
  rw [← hr1, ← hj1] at B1
  have bj1 := carry_le hj1 g1.1 hb' bj0
  have B2 := Add64_c n2 c' j1 bj1
  obtain ⟨r2, hr2⟩ : ∃ s, s = (n2 + c' + j1) % 18446744073709551616 := ⟨_, rfl⟩
  obtain ⟨j2, hj2⟩ : ∃ s, s = (n2 + c' + j1) / 18446744073709551616 := ⟨_, rfl⟩
  rw [← hr2, ← hj2] at B2
  have bj2 := carry_le hj2 g1.2.1 hc' bj1
  have B3 := Add64_c n3 d' j2 bj2
  obtain ⟨r3, hr3⟩ : ∃ s, s = (n3 + d' + j2) % 18446744073709551616 := ⟨_, rfl⟩
  obtain ⟨j3, hj3⟩ : ∃ s, s = (n3 + d' + j2) / 18446744073709551616 := ⟨_, rfl⟩
  rw [← hr3, ← hj3] at B3
  obtain ⟨r4, hr4⟩ : ∃ s, s = n4 + j3 := ⟨_, rfl⟩
  have i0 : r0 + 18446744073709551616 * j0 = l0 + a' := carry_sum hr0 hj0
  have i1 : r1 + 18446744073709551616 * j1 = n1 + b' + j0 := carry_sum hr1 hj1
  have i2 : r2 + 18446744073709551616 * j2 = n2 + c' + j1 := carry_sum hr2 hj2
  have i3 : r3 + 18446744073709551616 * j3 = n3 + d' + j2 := carry_sum hr3 hj3
  have i4 : r0 < 18446744073709551616 ∧ r1 < 18446744073709551616 ∧ r2 < 18446744073709551616 ∧ r3 < 18446744073709551616 := ⟨rest_lt hr0, rest_lt hr1, rest_lt hr2, rest_lt hr3⟩
  clear hr0 hj0 hr1 hj1 hr2 hj2 hr3 hj3
  have hz3 := row_high hz2 hma i0 i1 i2 i3
  rw [← hr4] at hz3
  have hr4l : r4 < 18446744073709551616 := row_lt2 hz3 hle hm
  have w2 : IntKind.u64.wrap ((n4 : Int) + (j3 : Int)) = (r4 : Int) := wrap_sum hr4 hr4l
  have hcut := row_cut hz3 i4.1
  have hres : (z + m) % 18446744073709551616 = r0 ∧ eA ((z + m) / 18446744073709551616) = e4 r1 r2 r3 r4 :=
    ⟨hcut.1, by rw [hcut.2]; exact eA_of r1 r2 r3 r4 i4.2.1 i4.2.2.1 i4.2.2.2 hr4l⟩
  clear hcut
  have HR := hid hres
  have M0 := hid m0; have M1 := hid m1; have M2 := hid m2; have M3 := hid m3
  clear m0 m1 m2 m3 hres hx hy hm ha hb hc hd hya ey ha' hb' hc' hd' hma em hxy hle hl0l hl1l hl2l hl3l e0 e1 e2 e3 hh0b hh1b hh2b hn4 f1 f2 f3 g1 bk1 bk2 bj0 bj1 bj2 hz2 g4 hr4 i0 i1 i2 i3 i4 hz3 hr4l
  go_enter Try.func95, Try.ntmps95
  go_wp2_with fail
  refine (M0.out _).mono ?_
  rintro e wa ⟨rfl, rfl⟩
  go_wp2_with fail
  refine (M1.out _).mono ?_
  rintro e wa ⟨rfl, rfl⟩
  go_wp2_with fail
  refine (M2.out _).mono ?_
  rintro e wa ⟨rfl, rfl⟩
  go_wp2_with fail
  refine (M3.out _).mono ?_
  rintro e wa ⟨rfl, rfl⟩
  go_wp2
  refine bodyPost_ret (v := .tuple #[.int .u64 (r0 : Int), .agg (e4 r1 r2 r3 r4)]) (results_tmp_cell rfl _ _ ⟨w.heap.size + 1 + 1, 0, none⟩ _ _ rfl rfl (load_e (blkN (by simp) _ _))) rfl ⟨by rw [HR.out.1, HR.out.2], ?_⟩
  exact (((Below.refl _ _).alloc (Nat.le_refl _) _).alloc (by simp) _).alloc (by simp; omega) _
end

section
open Go.RowKit
set_option linter.unusedVariables false
set_option linter.unusedSimpArgs false

theorem infoEA (n : Nat) : (Try.prog.info? 26).map (·.size) = some (eA n).size := infoE
/-- Four blocks: what came in, and what goes out. -/
def Fr (w wr : World) (X Y L U : Array Value) : Prop :=
  wr.heap[w.heap.size]? = some (.cells X ET (0, 0)) ∧ wr.heap[w.heap.size + 1]? = some (.cells Y ET (0, 0)) ∧ wr.heap[w.heap.size + 1 + 1]? = some (.cells L ET (0, 0)) ∧ wr.heap[w.heap.size + 1 + 1 + 1]? = some (.cells U ET (0, 0)) ∧ Below w.heap.size w wr ∧ w.heap.size + 1 + 1 + 1 < wr.heap.size
theorem Fr.call {w wr w' : World} {X Y L U : Array Value} (h : Fr w wr X Y L U) (hb : Below wr.heap.size wr w') : Fr w w' X Y L U := by
  obtain ⟨h0, h1, h2, h3, h4, h5⟩ := h
  exact ⟨block_below hb (by omega) h0, block_below hb (by omega) h1, block_below hb (by omega) h2, block_below hb (by omega) h3, h4.trans (hb.mono (by omega)), by have := hb.size; omega⟩
theorem Fr.store {w wr : World} {X Y L U : Array Value} (h : Fr w wr X Y L U) (k : Nat) (v : Value) (U' : Array Value) :
    Fr w ((wr.setCell ⟨w.heap.size + 1 + 1, k, none⟩ v).setRow (w.heap.size + 1 + 1 + 1) U') X Y (L.setIfInBounds k v) U' := by
  obtain ⟨h0, h1, h2, h3, h4, h5⟩ := h
  refine ⟨?_, ?_, ?_, ?_, ?_, ?_⟩
  · exact (setRow_other _ _ _ _ (by omega)).trans ((heap_setCell_other _ _ _ _ (by simp <;> omega)).trans h0)
  · exact (setRow_other _ _ _ _ (by omega)).trans ((heap_setCell_other _ _ _ _ (by simp <;> omega)).trans h1)
  · exact (setRow_other _ _ _ _ (by omega)).trans (block_set h2 k v)
  · exact setRow_heap _ _ _ _ _ _ ((heap_setCell_other _ _ _ _ (by simp <;> omega)).trans h3)
  · exact belowRow (h4.setCell (by simp <;> omega) _) (by omega) _
  · rw [size_setRow]; simpa using h5
theorem Fr.start (w : World) (X Y : Array Value) : Fr w ((((w.alloc (.cells X ET)).alloc (.cells Y ET)).alloc (.cells z4 ET)).alloc (.cells z4 ET)) X Y z4 z4 :=
  ⟨blkA (blkA (blkA (blkN rfl X ET) _) _) _, blkA (blkA (blkN (by simp) Y ET) _) _, blkA (blkN (by simp) z4 ET) _, blkN (by simp) z4 ET,
    ((((Below.refl _ _).alloc (Nat.le_refl _) _).alloc (by simp) _).alloc (by simp; omega) _).alloc (by simp; omega) _, by simp⟩
theorem Fr.x {w wr : World} {X Y L U : Array Value} (h : Fr w wr X Y L U) (k : Nat) (v : Value) (hv : X[k]? = some v) : wr.cell? ⟨w.heap.size, k, none⟩ = some v := cell_of h.1 k v hv
theorem Fr.l {w wr : World} {X Y L U : Array Value} (h : Fr w wr X Y L U) (k : Nat) (v : Value) (hv : L[k]? = some v) : wr.cell? ⟨w.heap.size + 1 + 1, k, none⟩ = some v := cell_of h.2.2.1 k v hv
theorem Fr.lf {w wr : World} {X Y L U : Array Value} (h : Fr w wr X Y L U) (k : Nat) : wr.frozen? ⟨w.heap.size + 1 + 1, k, none⟩ = false := frozen_of_row _ _ _ _ _ h.2.2.1
/-- The four steps of a product. -/
theorem product_num {xa xb xc xd y t0 t1 t2 t3 l0 l1 l2 l3 u1 u2 u3 u4 : Nat} (h0 : t0 = l0 + 18446744073709551616 * u1) (h1 : t1 = l1 + 18446744073709551616 * u2) (h2 : t2 = l2 + 18446744073709551616 * u3) (h3 : t3 = l3 + 18446744073709551616 * u4)
    (e0 : t0 = xa * y) (e1 : t1 = xb * y + u1) (e2 : t2 = xc * y + u2) (e3 : t3 = xd * y + u3) :
    (xa + 18446744073709551616 * xb + 340282366920938463463374607431768211456 * xc + 6277101735386680763835789423207666416102355444464034512896 * xd) * y = (l0 + 18446744073709551616 * l1 + 340282366920938463463374607431768211456 * l2 + 6277101735386680763835789423207666416102355444464034512896 * l3) + 115792089237316195423570985008687907853269984665640564039457584007913129639936 * u4 := by
  rw [Nat.add_mul, Nat.add_mul, Nat.add_mul, Nat.mul_assoc, Nat.mul_assoc, Nat.mul_assoc]
  omega
theorem step_lt {t x y u : Nat} (h : t = x * y + u) (hx : x < 18446744073709551616) (hy : y < 115792089237316195423570985008687907853269984665640564039457584007913129639936) (hu : u < 115792089237316195423570985008687907853269984665640564039457584007913129639936) : t / 18446744073709551616 < 115792089237316195423570985008687907853269984665640564039457584007913129639936 := by
  have : x * y ≤ 18446744073709551615 * 115792089237316195423570985008687907853269984665640564039457584007913129639935 := Nat.mul_le_mul (by omega) (by omega)
  omega
theorem product_end {z l u : Nat} (h : z = l + 115792089237316195423570985008687907853269984665640564039457584007913129639936 * u) (hl : l < 115792089237316195423570985008687907853269984665640564039457584007913129639936) :
    z % 115792089237316195423570985008687907853269984665640564039457584007913129639936 = l ∧ z / 115792089237316195423570985008687907853269984665640564039457584007913129639936 = u := by
  constructor <;> omega
theorem four_lt {a b c d : Nat} (ha : a < 18446744073709551616) (hb : b < 18446744073709551616) (hc : c < 18446744073709551616) (hd : d < 18446744073709551616) : a + 18446744073709551616 * b + 340282366920938463463374607431768211456 * c + 6277101735386680763835789423207666416102355444464034512896 * d < 115792089237316195423570985008687907853269984665640564039457584007913129639936 := by omega

set_option maxRecDepth 100000 in
set_option maxHeartbeats 1000000 in
theorem product_e (x y : Nat) (w : World) (hx : x < 115792089237316195423570985008687907853269984665640564039457584007913129639936) (hy : y < 115792089237316195423570985008687907853269984665640564039457584007913129639936) :
    Calls Try.prog 83 #[.agg (eA x), .agg (eA y)] w fun e w' => e = .returned (.tuple #[.agg (eA (x * y % 115792089237316195423570985008687907853269984665640564039457584007913129639936)), .agg (eA (x * y / 115792089237316195423570985008687907853269984665640564039457584007913129639936))]) ∧ Below w.heap.size w w' := by
  obtain ⟨xa, xb, xc, xd, ha, hb, hc, hd, hxv, ex⟩ := words x hx
  rw [ex]
  have hr0 := fun W => row_e xa y 0 W ha hy (by omega)
  rw [Nat.add_zero] at hr0
  obtain ⟨t0, ht0⟩ : ∃ t, t = xa * y := ⟨_, rfl⟩
  have lt1 : t0 / 18446744073709551616 < 115792089237316195423570985008687907853269984665640564039457584007913129639936 := step_lt (u := 0) ht0 ha hy (by omega)
  rw [← ht0] at hr0
  obtain ⟨l0, hl0⟩ : ∃ l, l = t0 % 18446744073709551616 := ⟨_, rfl⟩
  obtain ⟨u1, hu1⟩ : ∃ u, u = t0 / 18446744073709551616 := ⟨_, rfl⟩
  rw [← hl0, ← hu1] at hr0
  rw [← hu1] at lt1
  have d0 := div_mod_sum hl0 hu1
  have ll0 := rest_lt hl0
  have R0 := hid hr0
  clear hr0 hl0 hu1
  have hr1 := fun W => row_e xb y u1 W hb hy lt1
  obtain ⟨t1, ht1⟩ : ∃ t, t = xb * y + u1 := ⟨_, rfl⟩
  have lt2 : t1 / 18446744073709551616 < 115792089237316195423570985008687907853269984665640564039457584007913129639936 := step_lt ht1 hb hy lt1
  rw [← ht1] at hr1
  obtain ⟨l1, hl1⟩ : ∃ l, l = t1 % 18446744073709551616 := ⟨_, rfl⟩
  obtain ⟨u2, hu2⟩ : ∃ u, u = t1 / 18446744073709551616 := ⟨_, rfl⟩
  rw [← hl1, ← hu2] at hr1
  rw [← hu2] at lt2
  have d1 := div_mod_sum hl1 hu2
  have ll1 := rest_lt hl1
  have R1 := hid hr1
  clear hr1 hl1 hu2
  have hr2 := fun W => row_e xc y u2 W hc hy lt2
  obtain ⟨t2, ht2⟩ : ∃ t, t = xc * y + u2 := ⟨_, rfl⟩
  have lt3 : t2 / 18446744073709551616 < 115792089237316195423570985008687907853269984665640564039457584007913129639936 := step_lt ht2 hc hy lt2
  rw [← ht2] at hr2
  obtain ⟨l2, hl2⟩ : ∃ l, l = t2 % 18446744073709551616 := ⟨_, rfl⟩
  obtain ⟨u3, hu3⟩ : ∃ u, u = t2 / 18446744073709551616 := ⟨_, rfl⟩
  rw [← hl2, ← hu3] at hr2
  rw [← hu3] at lt3
  have d2 := div_mod_sum hl2 hu3
  have ll2 := rest_lt hl2
  have R2 := hid hr2
  clear hr2 hl2 hu3
  have hr3 := fun W => row_e xd y u3 W hd hy lt3
  obtain ⟨t3, ht3⟩ : ∃ t, t = xd * y + u3 := ⟨_, rfl⟩
  have lt4 : t3 / 18446744073709551616 < 115792089237316195423570985008687907853269984665640564039457584007913129639936 := step_lt ht3 hd hy lt3
  rw [← ht3] at hr3
  obtain ⟨l3, hl3⟩ : ∃ l, l = t3 % 18446744073709551616 := ⟨_, rfl⟩
  obtain ⟨u4, hu4⟩ : ∃ u, u = t3 / 18446744073709551616 := ⟨_, rfl⟩
  rw [← hl3, ← hu4] at hr3
  rw [← hu4] at lt4
  have d3 := div_mod_sum hl3 hu4
  have ll3 := rest_lt hl3
  have R3 := hid hr3
  clear hr3 hl3 hu4
  have hnum := product_num d0 d1 d2 d3 ht0 ht1 ht2 ht3
  rw [← hxv] at hnum
  have hend := product_end hnum (four_lt ll0 ll1 ll2 ll3)
  have hL : eA (x * y % 115792089237316195423570985008687907853269984665640564039457584007913129639936) = e4 l0 l1 l2 l3 := by rw [hend.1]; exact eA_of _ _ _ _ ll0 ll1 ll2 ll3
  have hU : eA (x * y / 115792089237316195423570985008687907853269984665640564039457584007913129639936) = eA u4 := by rw [hend.2]
  have HL := hid hL; have HU := hid hU
  clear hx hy ha hb hc hd hxv ex hnum hend hL hU d0 d1 d2 d3 ll0 ll1 ll2 ll3 lt1 lt2 lt3 lt4 ht0 ht1 ht2 ht3
  have F := hid (Fr.start w (e4 xa xb xc xd) (eA y))
  have c0 := F.out.x 0 (.int .u64 (xa : Int)) rfl
  go_enter Try.func83, Try.ntmps83
  have Y1 := hid F.out.2.1
  have U1 := hid F.out.2.2.2.1
  go_wp2_with (first | (with_reducible refine wpList_load_row rfl ET (.tmp 3) rfl (w.heap.size + 1) rfl ET (eA y) (0, 0) _ Y1.out Try.underlying26 rfl (infoEA y) ?_) | (with_reducible refine wpList_load_row rfl ET (.tmp 5) rfl (w.heap.size + 1 + 1 + 1) rfl ET z4 (0, 0) _ U1.out Try.underlying26 rfl (infoE4 0 0 0 0) ?_))
  refine (R0.out _).mono ?_
  rintro e w1 ⟨rfl, hb⟩
  have G := hid (F.out.call hb)
  have cl := G.out.l 0 (.int .u64 0) rfl
  have cf := G.out.lf 0
  have F2 : Hid (Fr w ((w1.setCell ⟨w.heap.size + 1 + 1, 0, none⟩ (.int .u64 (l0 : Int))).setRow (w.heap.size + 1 + 1 + 1) (eA u1)) (e4 xa xb xc xd) (eA y) (e4 l0 0 0 0) (eA u1)) := hid (G.out.store 0 _ _)
  have s3 : Hid ((w1.setCell ⟨w.heap.size + 1 + 1, 0, none⟩ (.int .u64 (l0 : Int))).heap[w.heap.size + 1 + 1 + 1]? = some (.cells z4 ET (0, 0))) := hid ((heap_setCell_other _ _ _ _ (by simp <;> omega)).trans G.out.2.2.2.1)
  clear hb F c0 Y1 U1
  have F := F2
  clear F2
  have c0 := F.out.x 1 (.int .u64 (xb : Int)) rfl
  have Y1 := hid F.out.2.1
  have U1 := hid F.out.2.2.2.1
  go_wp2_with (first | (with_reducible refine wpList_load_row rfl ET (.tmp 3) rfl (w.heap.size + 1) rfl ET (eA y) (0, 0) _ Y1.out Try.underlying26 rfl (infoEA y) ?_) | (with_reducible refine wpList_load_row rfl ET (.tmp 5) rfl (w.heap.size + 1 + 1 + 1) rfl ET (eA u1) (0, 0) _ U1.out Try.underlying26 rfl (infoEA u1) ?_) | (with_reducible refine wpList_store_row rfl ET (.tmp 5) _ rfl (w.heap.size + 1 + 1 + 1) (eA u1) rfl rfl ET z4 s3.out (infoEA u1) (sizeZA u1) (oneEA u1) ?_))
  refine (R1.out _).mono ?_
  rintro e w2 ⟨rfl, hb⟩
  have G := hid (F.out.call hb)
  have cl := G.out.l 1 (.int .u64 0) rfl
  have cf := G.out.lf 1
  have F2 : Hid (Fr w ((w2.setCell ⟨w.heap.size + 1 + 1, 1, none⟩ (.int .u64 (l1 : Int))).setRow (w.heap.size + 1 + 1 + 1) (eA u2)) (e4 xa xb xc xd) (eA y) (e4 l0 l1 0 0) (eA u2)) := hid (G.out.store 1 _ _)
  have s3 : Hid ((w2.setCell ⟨w.heap.size + 1 + 1, 1, none⟩ (.int .u64 (l1 : Int))).heap[w.heap.size + 1 + 1 + 1]? = some (.cells (eA u1) ET (0, 0))) := hid ((heap_setCell_other _ _ _ _ (by simp <;> omega)).trans G.out.2.2.2.1)
  clear hb F c0 Y1 U1
  have F := F2
  clear F2
  have c0 := F.out.x 2 (.int .u64 (xc : Int)) rfl
  have Y1 := hid F.out.2.1
  have U1 := hid F.out.2.2.2.1
  go_wp2_with (first | (with_reducible refine wpList_load_row rfl ET (.tmp 3) rfl (w.heap.size + 1) rfl ET (eA y) (0, 0) _ Y1.out Try.underlying26 rfl (infoEA y) ?_) | (with_reducible refine wpList_load_row rfl ET (.tmp 5) rfl (w.heap.size + 1 + 1 + 1) rfl ET (eA u2) (0, 0) _ U1.out Try.underlying26 rfl (infoEA u2) ?_) | (with_reducible refine wpList_store_row rfl ET (.tmp 5) _ rfl (w.heap.size + 1 + 1 + 1) (eA u2) rfl rfl ET (eA u1) s3.out (infoEA u2) (sizeEA u1 u2) (oneEA u2) ?_))
  refine (R2.out _).mono ?_
  rintro e w3 ⟨rfl, hb⟩
  have G := hid (F.out.call hb)
  have cl := G.out.l 2 (.int .u64 0) rfl
  have cf := G.out.lf 2
  have F2 : Hid (Fr w ((w3.setCell ⟨w.heap.size + 1 + 1, 2, none⟩ (.int .u64 (l2 : Int))).setRow (w.heap.size + 1 + 1 + 1) (eA u3)) (e4 xa xb xc xd) (eA y) (e4 l0 l1 l2 0) (eA u3)) := hid (G.out.store 2 _ _)
  have s3 : Hid ((w3.setCell ⟨w.heap.size + 1 + 1, 2, none⟩ (.int .u64 (l2 : Int))).heap[w.heap.size + 1 + 1 + 1]? = some (.cells (eA u2) ET (0, 0))) := hid ((heap_setCell_other _ _ _ _ (by simp <;> omega)).trans G.out.2.2.2.1)
  clear hb F c0 Y1 U1
  have F := F2
  clear F2
  have c0 := F.out.x 3 (.int .u64 (xd : Int)) rfl
  have Y1 := hid F.out.2.1
  have U1 := hid F.out.2.2.2.1
  go_wp2_with (first | (with_reducible refine wpList_load_row rfl ET (.tmp 3) rfl (w.heap.size + 1) rfl ET (eA y) (0, 0) _ Y1.out Try.underlying26 rfl (infoEA y) ?_) | (with_reducible refine wpList_load_row rfl ET (.tmp 5) rfl (w.heap.size + 1 + 1 + 1) rfl ET (eA u3) (0, 0) _ U1.out Try.underlying26 rfl (infoEA u3) ?_) | (with_reducible refine wpList_store_row rfl ET (.tmp 5) _ rfl (w.heap.size + 1 + 1 + 1) (eA u3) rfl rfl ET (eA u2) s3.out (infoEA u3) (sizeEA u2 u3) (oneEA u3) ?_))
  refine (R3.out _).mono ?_
  rintro e w4 ⟨rfl, hb⟩
  have G := hid (F.out.call hb)
  have cl := G.out.l 3 (.int .u64 0) rfl
  have cf := G.out.lf 3
  have F2 : Hid (Fr w ((w4.setCell ⟨w.heap.size + 1 + 1, 3, none⟩ (.int .u64 (l3 : Int))).setRow (w.heap.size + 1 + 1 + 1) (eA u4)) (e4 xa xb xc xd) (eA y) (e4 l0 l1 l2 l3) (eA u4)) := hid (G.out.store 3 _ _)
  have s3 : Hid ((w4.setCell ⟨w.heap.size + 1 + 1, 3, none⟩ (.int .u64 (l3 : Int))).heap[w.heap.size + 1 + 1 + 1]? = some (.cells (eA u3) ET (0, 0))) := hid ((heap_setCell_other _ _ _ _ (by simp <;> omega)).trans G.out.2.2.2.1)
  clear hb F c0 Y1 U1
  have F := F2
  clear F2
  go_wp2_with ((with_reducible refine wpList_store_row rfl ET (.tmp 5) _ rfl (w.heap.size + 1 + 1 + 1) (eA u4) rfl rfl ET (eA u3) s3.out (infoEA u4) (sizeEA u3 u4) (oneEA u4) ?_))
  have HI1 := hid (infoE4 l0 l1 l2 l3); have HO1 := hid (e4_one l0 l1 l2 l3)
  obtain ⟨H0, H1, H2, H3, HB, HZ⟩ := F.out
  refine wp_region_any (by kernel_rfl) ?_
  try (change wpAny _ _ _ _ _ _ _ (World.drew _))
  refine wpAny_ready (rs := [0, 1]) (by kernel_rfl) (by simp) ?_
  refine AllReady.cons rfl (fun K hK => ?_) (AllReady.cons rfl (fun K hK => ?_) (AllReady.nil))
  · refine step_load_row rfl ET (.tmp 4) rfl (w.heap.size + 1 + 1) rfl ET (e4 l0 l1 l2 l3) (0, 0) _ H2 Try.underlying26 rfl (infoE4 l0 l1 l2 l3) ?_
    refine hK _ _ ?_
    clear hK K
    refine wpAny_ready (rs := [1, 2]) (by kernel_rfl) (by simp) ?_
    refine AllReady.cons rfl (fun K hK => ?_) (AllReady.cons rfl (fun K hK => ?_) (AllReady.nil))
    · refine step_load_row rfl ET (.tmp 5) rfl (w.heap.size + 1 + 1 + 1) rfl ET (eA u4) (0, 0) _ H3 Try.underlying26 rfl (infoEA u4) ?_
      refine hK _ _ ?_
      clear hK K
      refine wpAny_ready (rs := [2]) (by kernel_rfl) (by simp) ?_
      refine AllReady.cons rfl (fun K hK => ?_) (AllReady.nil)
      refine step_store_same rfl ET (.tmp 4) (.tmp 42) rfl (w.heap.size + 1 + 1) (e4 l0 l1 l2 l3) rfl rfl ET H2 (infoE4 l0 l1 l2 l3) (e4_one l0 l1 l2 l3) ?_
      refine hK _ _ ?_
      clear hK K
      refine wpAny_ready (rs := [3]) (by kernel_rfl) (by simp) ?_
      refine AllReady.cons rfl (fun K hK => ?_) (AllReady.nil)
      refine step_store_same rfl ET (.tmp 5) (.tmp 43) rfl (w.heap.size + 1 + 1 + 1) (eA u4) rfl rfl ET H3 (infoEA u4) (oneEA u4) ?_
      refine hK _ _ ?_
      clear hK K
      refine wpAny_done (by kernel_rfl) ?_ _
      go_wp2
      exact bodyPost_ret (v := .tuple #[.agg (e4 l0 l1 l2 l3), .agg (eA u4)]) (results_two_e rfl _ _ ⟨w.heap.size + 1 + 1, 0, none⟩ ⟨w.heap.size + 1 + 1 + 1, 0, none⟩ _ _ rfl rfl (load_e H2) (run_loadVar_row _ _ ET ET _ (0, 0) _ H3 Try.underlying26 rfl (infoEA u4))) rfl ⟨by rw [HL.out, HU.out], HB.drew⟩
    · refine step_store_same rfl ET (.tmp 4) (.tmp 42) rfl (w.heap.size + 1 + 1) (e4 l0 l1 l2 l3) rfl rfl ET H2 (infoE4 l0 l1 l2 l3) (e4_one l0 l1 l2 l3) ?_
      refine hK _ _ ?_
      clear hK K
      refine wpAny_ready (rs := [1]) (by kernel_rfl) (by simp) ?_
      refine AllReady.cons rfl (fun K hK => ?_) (AllReady.nil)
      refine step_load_row rfl ET (.tmp 5) rfl (w.heap.size + 1 + 1 + 1) rfl ET (eA u4) (0, 0) _ H3 Try.underlying26 rfl (infoEA u4) ?_
      refine hK _ _ ?_
      clear hK K
      refine wpAny_ready (rs := [3]) (by kernel_rfl) (by simp) ?_
      refine AllReady.cons rfl (fun K hK => ?_) (AllReady.nil)
      refine step_store_same rfl ET (.tmp 5) (.tmp 43) rfl (w.heap.size + 1 + 1 + 1) (eA u4) rfl rfl ET H3 (infoEA u4) (oneEA u4) ?_
      refine hK _ _ ?_
      clear hK K
      refine wpAny_done (by kernel_rfl) ?_ _
      go_wp2
      exact bodyPost_ret (v := .tuple #[.agg (e4 l0 l1 l2 l3), .agg (eA u4)]) (results_two_e rfl _ _ ⟨w.heap.size + 1 + 1, 0, none⟩ ⟨w.heap.size + 1 + 1 + 1, 0, none⟩ _ _ rfl rfl (load_e H2) (run_loadVar_row _ _ ET ET _ (0, 0) _ H3 Try.underlying26 rfl (infoEA u4))) rfl ⟨by rw [HL.out, HU.out], HB.drew⟩
  · refine step_load_row rfl ET (.tmp 5) rfl (w.heap.size + 1 + 1 + 1) rfl ET (eA u4) (0, 0) _ H3 Try.underlying26 rfl (infoEA u4) ?_
    refine hK _ _ ?_
    clear hK K
    refine wpAny_ready (rs := [0]) (by kernel_rfl) (by simp) ?_
    refine AllReady.cons rfl (fun K hK => ?_) (AllReady.nil)
    refine step_load_row rfl ET (.tmp 4) rfl (w.heap.size + 1 + 1) rfl ET (e4 l0 l1 l2 l3) (0, 0) _ H2 Try.underlying26 rfl (infoE4 l0 l1 l2 l3) ?_
    refine hK _ _ ?_
    clear hK K
    refine wpAny_ready (rs := [2]) (by kernel_rfl) (by simp) ?_
    refine AllReady.cons rfl (fun K hK => ?_) (AllReady.nil)
    refine step_store_same rfl ET (.tmp 4) (.tmp 42) rfl (w.heap.size + 1 + 1) (e4 l0 l1 l2 l3) rfl rfl ET H2 (infoE4 l0 l1 l2 l3) (e4_one l0 l1 l2 l3) ?_
    refine hK _ _ ?_
    clear hK K
    refine wpAny_ready (rs := [3]) (by kernel_rfl) (by simp) ?_
    refine AllReady.cons rfl (fun K hK => ?_) (AllReady.nil)
    refine step_store_same rfl ET (.tmp 5) (.tmp 43) rfl (w.heap.size + 1 + 1 + 1) (eA u4) rfl rfl ET H3 (infoEA u4) (oneEA u4) ?_
    refine hK _ _ ?_
    clear hK K
    refine wpAny_done (by kernel_rfl) ?_ _
    go_wp2
    exact bodyPost_ret (v := .tuple #[.agg (e4 l0 l1 l2 l3), .agg (eA u4)]) (results_two_e rfl _ _ ⟨w.heap.size + 1 + 1, 0, none⟩ ⟨w.heap.size + 1 + 1 + 1, 0, none⟩ _ _ rfl rfl (load_e H2) (run_loadVar_row _ _ ET ET _ (0, 0) _ H3 Try.underlying26 rfl (infoEA u4))) rfl ⟨by rw [HL.out, HU.out], HB.drew⟩
end
end Go.Proofs.Ytealegfmmeklcaa
