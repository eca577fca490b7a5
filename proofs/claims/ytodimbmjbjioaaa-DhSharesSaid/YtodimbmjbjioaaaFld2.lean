/-
  Package field: a word times a number, and more.
-/
import Derived.Test.YtodimbmjbjioaaaFld1
namespace Go.Proofs.Ytodimbmjbjioaaa
open Go.RowKit
set_option linter.unusedVariables false
set_option linter.unusedSimpArgs false

/-- A slot and a cell as results. -/
theorem results_tmp_cell {fn : Func} {q p : Tmp} {ty : TypeId} (h : fn.results = #[.tmp q, .cell p ty]) (tmps : Array Value) (w : World) (a : Addr) (u v : Value) {P : Program}
    (hv : tmps.getD q undef = v) (hp : tmps.getD p undef = .pointer (some a)) (hl : (loadVar ty a).run P w = .ok u w) :
    (results fn tmps).run P w = .ok (.tuple #[v, u]) w := by
  have hv' : tmps[q]?.getD undef = v := by rw [← hv]; simp [Array.getD_eq_getD_getElem?]
  have hp' : tmps[p]?.getD undef = .pointer (some a) := by rw [← hp]; simp [Array.getD_eq_getD_getElem?]
  simp [results, h, hv', hp', asAddr, hl]
theorem load_e {w : World} {g : Nat} {a b c d : Nat} {t : TypeId} (h : w.heap[g]? = some (.cells (e4 a b c d) t (0, 0))) : (loadVar ET ⟨g, 0, none⟩).run Try.prog w = .ok (.agg (e4 a b c d)) w :=
  run_loadVar_row w g t ET _ (0, 0) _ h Try.underlying33 rfl infoE

theorem row_low {p0 p1 p2 p3 l0 l1 l2 l3 h0 h1 h2 h3 n1 n2 n3 k1 k2 k3 : Nat} (e0 : p0 = l0 + 18446744073709551616 * h0) (e1 : p1 = l1 + 18446744073709551616 * h1) (e2 : p2 = l2 + 18446744073709551616 * h2) (e3 : p3 = l3 + 18446744073709551616 * h3)
    (f1 : n1 + 18446744073709551616 * k1 = l1 + h0) (f2 : n2 + 18446744073709551616 * k2 = l2 + h1 + k1) (f3 : n3 + 18446744073709551616 * k3 = l3 + h2 + k2) :
    p0 + 18446744073709551616 * p1 + 340282366920938463463374607431768211456 * p2 + 6277101735386680763835789423207666416102355444464034512896 * p3 = l0 + 18446744073709551616 * n1 + 340282366920938463463374607431768211456 * n2 + 6277101735386680763835789423207666416102355444464034512896 * n3 + 115792089237316195423570985008687907853269984665640564039457584007913129639936 * (h3 + k3) := by
  omega
theorem row_high {z m l0 n1 n2 n3 n4 a' b' c' d' r0 r1 r2 r3 j0 j1 j2 j3 : Nat} (hz : z = l0 + 18446744073709551616 * n1 + 340282366920938463463374607431768211456 * n2 + 6277101735386680763835789423207666416102355444464034512896 * n3 + 115792089237316195423570985008687907853269984665640564039457584007913129639936 * n4)
    (hm : m = a' + 18446744073709551616 * b' + 340282366920938463463374607431768211456 * c' + 6277101735386680763835789423207666416102355444464034512896 * d')
    (i0 : r0 + 18446744073709551616 * j0 = l0 + a') (i1 : r1 + 18446744073709551616 * j1 = n1 + b' + j0) (i2 : r2 + 18446744073709551616 * j2 = n2 + c' + j1) (i3 : r3 + 18446744073709551616 * j3 = n3 + d' + j2) :
    z + m = r0 + 18446744073709551616 * (r1 + 18446744073709551616 * r2 + 340282366920938463463374607431768211456 * r3 + 6277101735386680763835789423207666416102355444464034512896 * (n4 + j3)) := by
  omega
theorem div_mod_sum {p l h : Nat} (hl : l = p % 18446744073709551616) (hh : h = p / 18446744073709551616) : p = l + 18446744073709551616 * h := by omega
theorem carry_sum {r j t : Nat} (hr : r = t % 18446744073709551616) (hj : j = t / 18446744073709551616) : r + 18446744073709551616 * j = t := by omega
theorem carry_le {j a b c : Nat} (hj : j = (a + b + c) / 18446744073709551616) (ha : a < 18446744073709551616) (hb : b < 18446744073709551616) (hc : c ≤ 1) : j ≤ 1 := by omega
theorem carry_le2 {j a b : Nat} (hj : j = (a + b) / 18446744073709551616) (ha : a < 18446744073709551616) (hb : b < 18446744073709551616) : j ≤ 1 := by omega
theorem rest_lt {r t : Nat} (hr : r = t % 18446744073709551616) : r < 18446744073709551616 := by omega
theorem high_lt {h p : Nat} (hh : h = p / 18446744073709551616) (hp : p ≤ 18446744073709551615 * 18446744073709551615) : h < 18446744073709551616 := by omega
theorem wrap_sum {a b c : Nat} (h : c = a + b) (hc : c < 18446744073709551616) : IntKind.u64.wrap ((a : Int) + (b : Int)) = (c : Int) := by rw [IntKind.wrap_u64]; omega
theorem row_lt {z a b c d n : Nat} (h : z = a + 18446744073709551616 * b + 340282366920938463463374607431768211456 * c + 6277101735386680763835789423207666416102355444464034512896 * d + 115792089237316195423570985008687907853269984665640564039457584007913129639936 * n)
    (hle : z ≤ 18446744073709551615 * 115792089237316195423570985008687907853269984665640564039457584007913129639935) : n < 18446744073709551616 := by omega
theorem row_lt2 {z m a b c d n : Nat} (h : z + m = a + 18446744073709551616 * (b + 18446744073709551616 * c + 340282366920938463463374607431768211456 * d + 6277101735386680763835789423207666416102355444464034512896 * n))
    (hle : z ≤ 18446744073709551615 * 115792089237316195423570985008687907853269984665640564039457584007913129639935) (hm : m < 115792089237316195423570985008687907853269984665640564039457584007913129639936) : n < 18446744073709551616 := by omega
theorem row_cut {t r0 q : Nat} (h : t = r0 + 18446744073709551616 * q) (h0 : r0 < 18446744073709551616) : t % 18446744073709551616 = r0 ∧ t / 18446744073709551616 = q := by
  constructor <;> omega

set_option maxHeartbeats 1000000 in
theorem row_e (x y m : Nat) (w : World) (hx : x < 18446744073709551616) (hy : y < 115792089237316195423570985008687907853269984665640564039457584007913129639936) (hm : m < 115792089237316195423570985008687907853269984665640564039457584007913129639936) :
    Calls Try.prog 53 #[.int .u64 (x : Int), .agg (eA y), .agg (eA m)] w fun e w' => e = .returned (.tuple #[.int .u64 (((x * y + m) % 18446744073709551616 : Nat) : Int), .agg (eA ((x * y + m) / 18446744073709551616))]) ∧ Below w.heap.size w w' := by
  obtain ⟨a, b, c, d, ha, hb, hc, hd, hya, ey⟩ := words y hy
  obtain ⟨a', b', c', d', ha', hb', hc', hd', hma, em⟩ := words m hm
  have hxy : x * y = x * a + 18446744073709551616 * (x * b) + 340282366920938463463374607431768211456 * (x * c) + 6277101735386680763835789423207666416102355444464034512896 * (x * d) := by
    rw [hya, Nat.mul_add, Nat.mul_add, Nat.mul_add, Nat.mul_left_comm x, Nat.mul_left_comm x, Nat.mul_left_comm x]
  have hle : x * y ≤ 18446744073709551615 * 115792089237316195423570985008687907853269984665640564039457584007913129639935 := Nat.mul_le_mul (by omega) (by omega)
  obtain ⟨z, hz⟩ : ∃ z, z = x * y := ⟨_, rfl⟩
  rw [← hz] at hxy hle ⊢
  rw [ey, em]
  have m0 := Mul64_any x a hx ha
  have m1 := Mul64_any x b hx hb
  have m2 := Mul64_any x c hx hc
  have m3 := Mul64_any x d hx hd
  obtain ⟨p0, hp0⟩ : ∃ p, p = x * a := ⟨_, rfl⟩
  obtain ⟨p1, hp1⟩ : ∃ p, p = x * b := ⟨_, rfl⟩
  obtain ⟨p2, hp2⟩ : ∃ p, p = x * c := ⟨_, rfl⟩
  obtain ⟨p3, hp3⟩ : ∃ p, p = x * d := ⟨_, rfl⟩
  rw [← hp0] at m0 hxy
  rw [← hp1] at m1 hxy
  rw [← hp2] at m2 hxy
  rw [← hp3] at m3 hxy
  have q0 : p0 ≤ 18446744073709551615 * 18446744073709551615 := by rw [hp0]; exact Nat.mul_le_mul (by omega) (by omega)
  have q1 : p1 ≤ 18446744073709551615 * 18446744073709551615 := by rw [hp1]; exact Nat.mul_le_mul (by omega) (by omega)
  have q2 : p2 ≤ 18446744073709551615 * 18446744073709551615 := by rw [hp2]; exact Nat.mul_le_mul (by omega) (by omega)
  have q3 : p3 ≤ 18446744073709551615 * 18446744073709551615 := by rw [hp3]; exact Nat.mul_le_mul (by omega) (by omega)
  clear hp0 hp1 hp2 hp3 hz
  obtain ⟨h0, hh0⟩ : ∃ h, h = p0 / 18446744073709551616 := ⟨_, rfl⟩
  obtain ⟨l0, hl0⟩ : ∃ l, l = p0 % 18446744073709551616 := ⟨_, rfl⟩
  rw [← hh0, ← hl0] at m0
  obtain ⟨h1, hh1⟩ : ∃ h, h = p1 / 18446744073709551616 := ⟨_, rfl⟩
  obtain ⟨l1, hl1⟩ : ∃ l, l = p1 % 18446744073709551616 := ⟨_, rfl⟩
  rw [← hh1, ← hl1] at m1
  obtain ⟨h2, hh2⟩ : ∃ h, h = p2 / 18446744073709551616 := ⟨_, rfl⟩
  obtain ⟨l2, hl2⟩ : ∃ l, l = p2 % 18446744073709551616 := ⟨_, rfl⟩
  rw [← hh2, ← hl2] at m2
  obtain ⟨h3, hh3⟩ : ∃ h, h = p3 / 18446744073709551616 := ⟨_, rfl⟩
  obtain ⟨l3, hl3⟩ : ∃ l, l = p3 % 18446744073709551616 := ⟨_, rfl⟩
  rw [← hh3, ← hl3] at m3
  have hl0l : l0 < 18446744073709551616 := rest_lt hl0
  have hl1l : l1 < 18446744073709551616 := rest_lt hl1
  have hl2l : l2 < 18446744073709551616 := rest_lt hl2
  have hl3l : l3 < 18446744073709551616 := rest_lt hl3
  have e0 : p0 = l0 + 18446744073709551616 * h0 := div_mod_sum hl0 hh0
  have e1 : p1 = l1 + 18446744073709551616 * h1 := div_mod_sum hl1 hh1
  have e2 : p2 = l2 + 18446744073709551616 * h2 := div_mod_sum hl2 hh2
  have e3 : p3 = l3 + 18446744073709551616 * h3 := div_mod_sum hl3 hh3
  have hh0b : h0 < 18446744073709551616 := high_lt hh0 q0
  have hh1b : h1 < 18446744073709551616 := high_lt hh1 q1
  have hh2b : h2 < 18446744073709551616 := high_lt hh2 q2
  clear hh0 hl0 hh1 hl1 hh2 hl2 hh3 hl3 q3 q0 q1 q2
  have A1 := Add64_run l1 h0
  obtain ⟨n1, hn1⟩ : ∃ s, s = (l1 + h0) % 18446744073709551616 := ⟨_, rfl⟩
  obtain ⟨k1, hk1⟩ : ∃ s, s = (l1 + h0) / 18446744073709551616 := ⟨_, rfl⟩
  rw [← hn1, ← hk1] at A1
  have bk1 := carry_le2 hk1 hl1l hh0b
  have A2 := Add64_c l2 h1 k1 bk1
  obtain ⟨n2, hn2⟩ : ∃ s, s = (l2 + h1 + k1) % 18446744073709551616 := ⟨_, rfl⟩
  obtain ⟨k2, hk2⟩ : ∃ s, s = (l2 + h1 + k1) / 18446744073709551616 := ⟨_, rfl⟩
  rw [← hn2, ← hk2] at A2
  have bk2 := carry_le hk2 hl2l hh1b bk1
  have A3 := Add64_c l3 h2 k2 bk2
  obtain ⟨n3, hn3⟩ : ∃ s, s = (l3 + h2 + k2) % 18446744073709551616 := ⟨_, rfl⟩
  obtain ⟨k3, hk3⟩ : ∃ s, s = (l3 + h2 + k2) / 18446744073709551616 := ⟨_, rfl⟩
  rw [← hn3, ← hk3] at A3
  obtain ⟨n4, hn4⟩ : ∃ s, s = h3 + k3 := ⟨_, rfl⟩
  have f1 : n1 + 18446744073709551616 * k1 = l1 + h0 := carry_sum hn1 hk1
  have f2 : n2 + 18446744073709551616 * k2 = l2 + h1 + k1 := carry_sum hn2 hk2
  have f3 : n3 + 18446744073709551616 * k3 = l3 + h2 + k2 := carry_sum hn3 hk3
  have g1 : n1 < 18446744073709551616 ∧ n2 < 18446744073709551616 ∧ n3 < 18446744073709551616 := ⟨rest_lt hn1, rest_lt hn2, rest_lt hn3⟩
  clear hn1 hk1 hn2 hk2 hn3 hk3
  have hz2 := row_low e0 e1 e2 e3 f1 f2 f3
  rw [← hxy, ← hn4] at hz2
  have g4 : n4 < 18446744073709551616 := row_lt hz2 hle
  have w1 : IntKind.u64.wrap ((h3 : Int) + (k3 : Int)) = (n4 : Int) := wrap_sum hn4 g4
  have B0 := Add64_run l0 a'
  obtain ⟨r0, hr0⟩ : ∃ s, s = (l0 + a') % 18446744073709551616 := ⟨_, rfl⟩
  obtain ⟨j0, hj0⟩ : ∃ s, s = (l0 + a') / 18446744073709551616 := ⟨_, rfl⟩
  rw [← hr0, ← hj0] at B0
  have bj0 := carry_le2 hj0 hl0l ha'
  have B1 := Add64_c n1 b' j0 bj0
  obtain ⟨r1, hr1⟩ : ∃ s, s = (n1 + b' + j0) % 18446744073709551616 := ⟨_, rfl⟩
  obtain ⟨j1, hj1⟩ : ∃ s, s = (n1 + b' + j0) / 18446744073709551616 := ⟨_, rfl⟩
  rw [← hr1, ← hj1] at B1
  have bj1 := carry_le hj1 g1.1 hb' bj0
  have B2 := Add64_c n2 c' j1 bj1
  obtain ⟨r2, hr2⟩ : ∃ s, s = (n2 + c' + j1) % 18446744073709551616 := ⟨_, rfl⟩
  obtain ⟨j2, hj2⟩ : ∃ s, s = (n2 + c' + j1) / 18446744073709551616 := ⟨_, rfl⟩
  rw [← hr2, ← hj2] at B2
  have bj2 := carry_le hj2 g1.2.1 hc' bj1
  have B3 := Add64_c n3 d' j2 bj2
  obtain ⟨r3, hr3⟩ : ∃ s, s = (n3 + d' + j2) % 18446744073709551616 := ⟨_, rfl⟩
  obtain ⟨j3, hj3⟩ : ∃ s, s = (n3 + d' + j2) / 18446744073709551616 := ⟨_, rfl⟩
  rw [← hr3, ← hj3] at B3
  obtain ⟨r4, hr4⟩ : ∃ s, s = n4 + j3 := ⟨_, rfl⟩
  have i0 : r0 + 18446744073709551616 * j0 = l0 + a' := carry_sum hr0 hj0
  have i1 : r1 + 18446744073709551616 * j1 = n1 + b' + j0 := carry_sum hr1 hj1
  have i2 : r2 + 18446744073709551616 * j2 = n2 + c' + j1 := carry_sum hr2 hj2
  have i3 : r3 + 18446744073709551616 * j3 = n3 + d' + j2 := carry_sum hr3 hj3
  have i4 : r0 < 18446744073709551616 ∧ r1 < 18446744073709551616 ∧ r2 < 18446744073709551616 ∧ r3 < 18446744073709551616 := ⟨rest_lt hr0, rest_lt hr1, rest_lt hr2, rest_lt hr3⟩
  clear hr0 hj0 hr1 hj1 hr2 hj2 hr3 hj3
  have hz3 := row_high hz2 hma i0 i1 i2 i3
  rw [← hr4] at hz3
  have hr4l : r4 < 18446744073709551616 := row_lt2 hz3 hle hm
  have w2 : IntKind.u64.wrap ((n4 : Int) + (j3 : Int)) = (r4 : Int) := wrap_sum hr4 hr4l
  have hcut := row_cut hz3 i4.1
  have hres : (z + m) % 18446744073709551616 = r0 ∧ eA ((z + m) / 18446744073709551616) = e4 r1 r2 r3 r4 :=
    ⟨hcut.1, by rw [hcut.2]; exact eA_of r1 r2 r3 r4 i4.2.1 i4.2.2.1 i4.2.2.2 hr4l⟩
  clear hcut
  have HR := hid hres
  have M0 := hid m0; have M1 := hid m1; have M2 := hid m2; have M3 := hid m3
  clear m0 m1 m2 m3 hres hx hy hm ha hb hc hd hya ey ha' hb' hc' hd' hma em hxy hle hl0l hl1l hl2l hl3l e0 e1 e2 e3 hh0b hh1b hh2b hn4 f1 f2 f3 g1 bk1 bk2 bj0 bj1 bj2 hz2 g4 hr4 i0 i1 i2 i3 i4 hz3 hr4l
  go_enter Try.func53, Try.ntmps53
  go_wp2_with fail
  refine (M0.out _).mono ?_
  rintro e wa ⟨rfl, rfl⟩
  go_wp2_with fail
  refine (M1.out _).mono ?_
  rintro e wa ⟨rfl, rfl⟩
  go_wp2_with fail
  refine (M2.out _).mono ?_
  rintro e wa ⟨rfl, rfl⟩
  go_wp2_with fail
  refine (M3.out _).mono ?_
  rintro e wa ⟨rfl, rfl⟩
  go_wp2
  refine bodyPost_ret (v := .tuple #[.int .u64 (r0 : Int), .agg (e4 r1 r2 r3 r4)]) (results_tmp_cell rfl _ _ ⟨w.heap.size + 1 + 1, 0, none⟩ _ _ rfl rfl (load_e (blkN (by simp) _ _))) rfl ⟨by rw [HR.out.1, HR.out.2], ?_⟩
  exact (((Below.refl _ _).alloc (Nat.le_refl _) _).alloc (by simp) _).alloc (by simp; omega) _
end Go.Proofs.Ytodimbmjbjioaaa
