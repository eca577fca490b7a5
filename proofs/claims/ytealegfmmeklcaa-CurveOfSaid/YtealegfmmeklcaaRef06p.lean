/-
  The document's numbers: a number's bytes.
-/
import Derived.Test.YtealegfmmeklcaaBigB
import Derived.Test.YtealegfmmeklcaaLeN
namespace Go.Proofs.Ytealegfmmeklcaa
open Go.RowKit
set_option linter.unusedVariables false
set_option linter.unusedSimpArgs false

theorem div_pow256 (N i : Nat) : N / 256 ^ i / 256 = N / 256 ^ (i + 1) := by rw [Nat.div_div_eq_div_mul, Nat.pow_succ]

set_option maxHeartbeats 1000000 in
theorem Bytes6_any (N n : Nat) (A : Option Addr) (c : Nat) (w : World) (hS : Sq w w.heap.size A c (ivs (dg N))) (hN : N < 32768 ^ 50) (hn : n ≤ 1000) :
    Calls Try.prog 18 #[.slice A (dg N).length c, .int .i64 (n : Int)] w fun e w' => ∃ v, e = .returned v ∧ OwnB w' w.heap.size v (leB n N) ∧ Below w.heap.size w w' := by
  have HS := hid hS
  have HN : Hid (∀ W, Calls Try.prog 15 #[.int .u64 256] W (BigR W 256)) := hid fun W => Num_any 256 W (by omega)
  have HL256 := hid (Nat.le_trans (dgl6 256 (by decide +kernel)) (show 50 ≤ 1048576 by omega))
  have HD := hid (fun i => dgl6 (N / 256 ^ i) (Nat.lt_of_le_of_lt (Nat.div_le_self _ _) hN))
  have hd0 : N / 256 ^ 0 = N := by rw [Nat.pow_zero, Nat.div_one]
  have HD0 := hid hd0
  clear hS hN hd0
  go_enter Try.func18, Try.ntmps18
  go_wp2
  go_loopg [0, 5, 6] n (fun g a v i wr => ∃ (k : Nat) (A1 : Option Addr) (c1 : Nat), k + g = n ∧ i = .int .i64 (k : Int) ∧ a = .slice A1 (dg (N / 256 ^ k)).length c1 ∧ Sq wr wr.heap.size A1 c1 (ivs (dg (N / 256 ^ k))) ∧ OwnB wr w.heap.size v (leB k N) ∧ Below w.heap.size w wr)
  case atStart => exact ⟨0, A, c, by omega, rfl, by rw [HD0.out], by rw [HD0.out]; exact HS.out, World.ownsRow_nil w w.heap.size 5 1, Below.refl _ _⟩
  case round =>
    obtain ⟨k, A1, c1, hk, rfl, rfl, hS1, ho, hb⟩ := hrel
    have HS1 := hid hS1; have HK := hid hk; have HB := hid hb; have HO := hid ho
    have hkn : k ≤ n := by omega
    clear hS1 hk hb ho HS
    by_cases hlt : k < n
    · have hx : (k : Int) < (n : Int) := by omega
      obtain ⟨M, hM⟩ : ∃ M, M = N / 256 ^ k := ⟨_, rfl⟩
      have hML : (dg M).length ≤ 1048576 := by rw [hM]; exact Nat.le_trans (HD.out k) (by omega)
      rw [← hM] at HS1 ⊢
      have HM := hid hM; have HML := hid hML
      clear hM hML
      go_wp2_with fail
      refine (HN.out _).mono ?_
      rintro e w1 ⟨A2, c2, rfl, hS2, hb2⟩
      have HS2 := hid hS2; have HS12 := hid (HS1.out.on6 hb2); have HB2 := hid (HB.out.trans (hb2.mono HB.out.size))
      have HO2 : Hid (OwnB w1 w.heap.size u5 (leB k N)) := hid (World.ownsRow.kept HO.out (grownF hb2) (Classical.em _))
      clear hS2 hb2 HB HO
      go_wp2_with fail
      have hown_lt := World.ownsRow.lt HO2.out
      refine (Div_at M 256 A1 A2 c1 c2 w1 HS12.out HS2.out HML.out HL256.out (by omega)).mono ?_
      rintro e w2 ⟨c3, A4, c4, rfl, hS3, hS4, hb3⟩
      have HS3 := hid hS3; have HS4 := hid hS4; have HB3 := hid (HB2.out.trans (hb3.mono HB2.out.size))
      have HO3 : Hid (OwnB w2 w.heap.size u5 (leB k N)) := hid (World.ownsRow.kept HO2.out (grownF hb3) (Classical.em _))
      clear hS3 hS4 hb3 HB2 HO2 HS12 HS2 HS1
      obtain ⟨r, hr⟩ : ∃ r, r = M % 256 := ⟨_, rfl⟩
      have hr256 : r < 256 := by omega
      rw [← hr] at HS4 ⊢
      have HR := hid hr
      clear hr
      go_wp2_with fail
      refine (Low_any r A4 c4 w2.heap.size w2 HS4.out (by omega)).mono ?_
      rintro e w3 ⟨rfl, rfl⟩
      have hrm : (r : Int) % 256 = (r : Int) := by omega
      have hrw : IntKind.u8.wrap (r : Int) = (r : Int) := by rw [IntKind.wrap_u8]; omega
      have hsz := HB3.out.size
      have ho3 := HO3.out
      go_wp2_with (at_builtin; refine wpList_append_lie rfl (.tmp 20) (.tmp 24) 22 rfl w.heap.size 5 (.int .u8 0) 1 Try.underlying22 infoU8 rfl rfl (World.ownsRow.alloc ho3 _) rfl rfl (Lie.new1 _ _ _) ?d0 ?d1 ?d2 ?d3 ?_)
      case d0 => intro u hu; simp at hu; subst hu; rfl
      case d1 => rw [List.length_singleton]; unfold maxLen; simp; omega
      case d2 => rw [List.length_singleton]; simp; omega
      case d3 => simp; omega
      intro v2 w4 hown4 hg4 _
      have hO : OwnB w4 w.heap.size v2 (leB (k + 1) N) := by
        rw [leB_snoc]
        refine own_snoc hown4 (by simp) ?_
        rw [ofNat_val, ← HM.out]
        have := HR.out
        omega
      have hB4 : Below w.heap.size w w4 := (HB3.out.alloc hsz _).grown hg4 (by simp; omega) (fun q h => own_lt (World.ownsRow.alloc ho3 (.cells #[.int .u8 ((r : Nat) : Int)] 5)) q h)
      have hS5 : Sq w4 w4.heap.size (some ⟨w1.heap.size, 0, none⟩) c3 (ivs (dg (M / 256))) := by
        have h1 : Sq (w2.alloc (.cells #[.int .u8 ((r : Nat) : Int)] 5)) w2.heap.size (some ⟨w1.heap.size, 0, none⟩) c3 (ivs (dg (M / 256))) := HS3.out.alloc (Nat.le_refl _) _
        rcases h1 with ⟨h1, h2⟩ | ⟨b', o', hA, hb', hc1, hc2, hcell⟩
        · exact .inl ⟨h1, h2⟩
        · simp only [Option.some.injEq, Addr.mk.injEq] at hA
          obtain ⟨rfl, rfl, _⟩ := hA
          refine .inr ⟨w1.heap.size, 0, rfl, by have := hg4.size; simp at this; omega, hc1, hc2, fun j u hu => ?_⟩
          refine (World.cell?_of_block (a := ⟨w1.heap.size, 0 + j, none⟩) (hg4.block w1.heap.size (by simp; omega) (fun e => ?_))).trans (hcell j u hu)
          have := (hown_lt _ e.symm).2
          omega
      have HS5 := hid hS5; have HO4 := hid hO; have HB4 := hid hB4
      clear hS5 hO hB4 hown4 hg4 ho3 HS3 HS4 HB3 HO3 hown_lt
      have hdiv := div_pow256 N k
      rw [← HM.out] at hdiv
      rw [hdiv] at HS5 ⊢
      clear hdiv
      go_wp2
      have hk := HK.out
      go_roundg (n - k - 1)
      case measure => omega
      case rel => exact ⟨k + 1, _, c3, by omega, by go_num, rfl, HS5.out, HO4.out, HB4.out⟩
    · obtain rfl : k = n := by omega
      have hx : ¬ (k : Int) < (k : Int) := by omega
      go_wp2
      go_ret
      exact ⟨_, rfl, HO.out, HB.out⟩
end Go.Proofs.Ytealegfmmeklcaa
