/-
  Package long: a block mixed into the state.
-/
import Derived.Test.YtokggppfobbblaaDoorLon2
import Derived.Test.YtokggppfobbblaaDoorSha3
namespace Go.Proofs.YtokggppfobbblaaDoor
open Go.RowKit
set_option linter.unusedVariables false
set_option linter.unusedSimpArgs false

abbrev A8L : TypeId := 68
/-- A state as an array. -/
def stL (s : St) : Array Value := (uvs s.list).toArray
theorem stL_size (s : St) : (stL s).size = 8 := rfl
theorem stL_one (s : St) : (stL s).all (·.oneCell') = true := by simp [stL, St.list, uvs, Value.oneCell']
theorem info8L : (Tryd.prog.info? 68).map (·.size) = some 8 := by kernel_rfl

/-- What the package's variables hold. -/
def GlobL (w : World) : Prop := (∀ j, j < 80 → w.cell? ⟨3, j, none⟩ = some (.int .u64 ((kTabL.getD j 0 : Nat) : Int))) ∧
  (∀ j v, (stL ivL)[j]? = some v → w.cell? ⟨1, j, none⟩ = some v) ∧ 3 < w.heap.size ∧ 1 < w.heap.size
theorem GlobL.below {w w' : World} {B : Nat} (h : GlobL w) (hb : Below B w w') (hB : w.heap.size ≤ B) : GlobL w' := by
  obtain ⟨h1, h2, h3, h4⟩ := h
  exact ⟨fun j hj => (hb.cell (p := ⟨_, j, none⟩) (Nat.lt_of_lt_of_le h3 hB)).trans (h1 j hj), fun j v hv => (hb.cell (p := ⟨_, j, none⟩) (Nat.lt_of_lt_of_le h4 hB)).trans (h2 j v hv), Nat.lt_of_lt_of_le h3 hb.size, Nat.lt_of_lt_of_le h4 hb.size⟩

theorem S0L_any (x : Nat) (hx : x < 18446744073709551616) (w : World) :
    Calls Tryd.prog 63 #[.int .u64 (x : Int), .int .i64 28, .int .i64 34, .int .i64 39] w fun e w' => e = .returned (.int .u64 ((S0L x : Nat) : Int)) ∧ w = w' :=
  (turned_any x 28 34 39 w hx (by omega) (by omega) (by omega) (by omega) (by omega) (by omega)).mono fun e w' h => h
theorem S1L_any (x : Nat) (hx : x < 18446744073709551616) (w : World) (a : Nat) :
    Calls Tryd.prog 63 #[.int .u64 (x : Int), .int .i64 14, .int .i64 18, .int .i64 41] (w.drewN a) fun e w' => e = .returned (.int .u64 ((S1L x : Nat) : Int)) ∧ ∃ n, w' = w.drewN n :=
  (turned_any x 14 18 41 _ hx (by omega) (by omega) (by omega) (by omega) (by omega) (by omega)).mono fun e w' h => ⟨h.1, a, h.2.symm⟩

theorem chL_bits (e f g : Nat) (he : e < 18446744073709551616) (hf : f < 18446744073709551616) (hg : g < 18446744073709551616) :
    bits .xor .u64 (bits .and .u64 (e : Int) (f : Int)) (bits .and .u64 (bits .xor .u64 IntKind.u64.max (e : Int)) (g : Int)) = ((chL e f g : Nat) : Int) := by
  have e0 : IntKind.u64.max = ((18446744073709551615 : Nat) : Int) := by decide
  have e1 : 18446744073709551615 ^^^ e = 18446744073709551615 - e := by
    apply Nat.eq_of_testBit_eq
    intro i
    have h2 := Nat.testBit_two_pow_sub_succ (n := 64) he i
    rw [show (2 : Nat) ^ 64 - (e + 1) = 18446744073709551615 - e by omega] at h2
    have h3 := Nat.testBit_two_pow_sub_one 64 i
    rw [show (2 : Nat) ^ 64 - 1 = 18446744073709551615 by decide] at h3
    rw [h2, Nat.testBit_xor, h3]
    by_cases hi : i < 64
    · simp [hi]
    · have : e.testBit i = false := Nat.testBit_lt_two_pow (Nat.lt_of_lt_of_le he (Nat.pow_le_pow_right (n := 2) (by omega) (by omega : 64 ≤ i)))
      simp [hi, this]
  rw [e0, u64_xor_nat _ _ (by omega) he, e1, u64_and_nat _ _ he hf, u64_and_nat _ _ (by omega) hg,
    u64_xor_nat _ _ (Nat.and_lt_two_pow (n := 64) _ hf) (Nat.and_lt_two_pow (n := 64) _ hg), chL]
theorem majL_bits (a b c : Nat) (ha : a < 18446744073709551616) (hb : b < 18446744073709551616) (hc : c < 18446744073709551616) :
    bits .xor .u64 (bits .xor .u64 (bits .and .u64 (a : Int) (b : Int)) (bits .and .u64 (a : Int) (c : Int))) (bits .and .u64 (b : Int) (c : Int)) = ((majL a b c : Nat) : Int) := by
  have h1 := Nat.and_lt_two_pow (n := 64) a hb
  have h2 := Nat.and_lt_two_pow (n := 64) a hc
  have h3 := Nat.and_lt_two_pow (n := 64) b hc
  rw [u64_and_nat _ _ ha hb, u64_and_nat _ _ ha hc, u64_and_nat _ _ hb hc, u64_xor_nat _ _ h1 h2, u64_xor_nat _ _ (Nat.xor_lt_two_pow (n := 64) h1 h2) h3, majL]

theorem addL (x y : Nat) : IntKind.u64.wrap ((x : Int) + (y : Int)) = (((x + y) % 18446744073709551616 : Nat) : Int) := by
  rw [IntKind.wrap_u64]; omega
theorem stepL_a (a b c d e f g h q p : Nat) :
    IntKind.u64.wrap (IntKind.u64.wrap (IntKind.u64.wrap (IntKind.u64.wrap (IntKind.u64.wrap ((h : Int) + ((S1L e : Nat) : Int)) + ((chL e f g : Nat) : Int)) + (q : Int)) + (p : Int)) + IntKind.u64.wrap (((S0L a : Nat) : Int) + ((majL a b c : Nat) : Int)))
      = (((St.stepL ⟨a, b, c, d, e, f, g, h⟩ q p).a : Nat) : Int) := by
  simp only [IntKind.wrap_u64, St.stepL, t1L, t2L]
  omega
theorem stepL_e (a b c d e f g h q p : Nat) :
    IntKind.u64.wrap ((d : Int) + IntKind.u64.wrap (IntKind.u64.wrap (IntKind.u64.wrap (IntKind.u64.wrap ((h : Int) + ((S1L e : Nat) : Int)) + ((chL e f g : Nat) : Int)) + (q : Int)) + (p : Int)))
      = (((St.stepL ⟨a, b, c, d, e, f, g, h⟩ q p).e : Nat) : Int) := by
  simp only [IntKind.wrap_u64, St.stepL, t1L]
  omega

set_option maxRecDepth 100000 in
set_option maxHeartbeats 1600000 in
theorem mixedL_any (s : St) (b o : Nat) (m : List UInt8) (c : Nat) (w : World) (hs : s.okL) (hm : m.length = 128) (hc : 128 ≤ c) (hc2 : c ≤ 9223372036854775807) (hb : b < w.heap.size) (hl : Lie w w.heap.size (some ⟨b, o, none⟩) (bvs m)) (hg : GlobL w) :
    Calls Tryd.prog 47 #[.agg (stL s), .slice (some ⟨b, o, none⟩) 128 c] w fun e w' => e = .returned (.agg (stL (mixL kTabL s m))) ∧ Below w.heap.size w w' := by
  have HL := hid hl
  have HM := hid hm
  have HG := hid hg
  clear hl hm hg
  have hz0 : ∀ W : World, (zeroValue 88).run Tryd.prog W = .ok (.agg (wcL m 0)) W := fun W => by
    rw [wcL_zero]
    exact (zero_of_info (P := Tryd.prog) (t := 88) (v := .agg (List.replicate 80 (Value.int .u64 0)).toArray) (n := 80) (by kernel_rfl)).1 W
  go_enter Tryd.func47, Tryd.ntmps47
  go_wp2_with fail
  obtain ⟨z8, hz8⟩ : ∃ z8 : Array Value, z8 = #[Value.int .u64 0, .int .u64 0, .int .u64 0, .int .u64 0, .int .u64 0, .int .u64 0, .int .u64 0, .int .u64 0] := ⟨_, rfl⟩
  rw [← hz8]
  have hz8s : z8.size = 8 := by rw [hz8]; rfl
  have HZ8 := hid hz8s
  clear hz8 hz8s
  have hL2 : Lie ((w.alloc (.cells (stL s) A8L)).alloc (.cells z8 A8L)) w.heap.size (some ⟨b, o, none⟩) (bvs m) := (HL.out.alloc (Nat.le_refl _) _).alloc (by simp) _
  have hG2 : GlobL ((w.alloc (.cells (stL s) A8L)).alloc (.cells z8 A8L)) := HG.out.below (((Below.refl _ _).alloc (Nat.le_refl _) _).alloc (by simp) _) (Nat.le_refl _)
  have hs2 : ((w.alloc (.cells (stL s) A8L)).alloc (.cells z8 A8L)).heap[w.heap.size]? = some (.cells (stL s) A8L (0, 0)) := heap_alloc2_old w _ _
  have hr2 : ((w.alloc (.cells (stL s) A8L)).alloc (.cells z8 A8L)).heap[w.heap.size + 1]? = some (.cells z8 A8L (0, 0)) := heap_alloc2_new w _ _
  have hb2 : Below w.heap.size w ((w.alloc (.cells (stL s) A8L)).alloc (.cells z8 A8L)) := ((Below.refl _ _).alloc (Nat.le_refl _) _).alloc (by simp) _
  have hsz2 : w.heap.size + 2 ≤ ((w.alloc (.cells (stL s) A8L)).alloc (.cells z8 A8L)).heap.size := by simp
  generalize (w.alloc (.cells (stL s) A8L)).alloc (.cells z8 A8L) = w2 at *
  refine (wordsL_any b o m c w2 HM.out hc hc2 (by omega) (hL2.more (by omega))).mono ?_
  rintro e w3 ⟨rfl, hb3⟩
  have hs3 : w3.heap[w.heap.size]? = some (.cells (stL s) A8L (0, 0)) := (hb3.block _ (by omega)).trans hs2
  have hr3 : w3.heap[w.heap.size + 1]? = some (.cells z8 A8L (0, 0)) := (hb3.block _ (by omega)).trans hr2
  have hG3 : GlobL w3 := hG2.below hb3 (Nat.le_refl _)
  have hb3' : Below w.heap.size w w3 := hb2.trans (hb3.mono (by omega))
  have hsz3 : w.heap.size + 2 ≤ w3.heap.size := Nat.le_trans hsz2 hb3.size
  have hi57 : (Tryd.prog.info? 88).map (·.size) = some (wcL m 80).size := info80.trans (congrArg some (wcL_size m 80 (by omega)).symm)
  have HI57 := hid hi57
  have HO := hid (wcL_one m 80)
  have HS64 : Hid ((wcL m 0).size = (wcL m 80).size) := hid ((wcL_size m 0 (by omega)).trans (wcL_size m 80 (by omega)).symm)
  have Hs3 := hid hs3; have Hr3 := hid hr3; have HG3 := hid hG3; have HB3 := hid hb3'
  clear hb3 hs3 hr3 hG3 hb3' hs2 hr2 hG2 hb2 hL2 hi57
  go_wp2_with (with_reducible refine wpList_store_row rfl 88 (.tmp 5) _ rfl w3.heap.size (wcL m 80) rfl rfl A80 _ (heap_alloc_new _ _) HI57.out ?e1 HO.out ?_)
  case e1 => exact HS64.out
  rw [World.setRow_alloc_new]
  clear hz0
  have hs4 : (w3.alloc (.cells (wcL m 80) A80)).heap[w.heap.size]? = some (.cells (stL s) A8L (0, 0)) := (Below.heap_alloc w3 _ w.heap.size (by omega)).trans Hs3.out
  have hr4 : (w3.alloc (.cells (wcL m 80) A80)).heap[w.heap.size + 1]? = some (.cells z8 A8L (0, 0)) := (Below.heap_alloc w3 _ (w.heap.size + 1) (by omega)).trans Hr3.out
  have hw4 : (w3.alloc (.cells (wcL m 80) A80)).heap[w3.heap.size]? = some (.cells (wcL m 80) A80 (0, 0)) := heap_alloc_new _ _
  have hG4 : GlobL (w3.alloc (.cells (wcL m 80) A80)) := HG3.out.below ((Below.refl w3.heap.size w3).alloc (Nat.le_refl _) _) (Nat.le_refl _)
  have hb4 : Below w.heap.size w (w3.alloc (.cells (wcL m 80) A80)) := HB3.out.alloc (by omega) _
  have hB5 : w.heap.size + 1 < w3.heap.size := by omega
  generalize w3.heap.size = B5 at *
  generalize w3.alloc (.cells (wcL m 80) A80) = w4 at *
  have hcs : ∀ j x, (stL s)[j]? = some x → w4.cell? ⟨w.heap.size, j, none⟩ = some x := fun j x h => cell_of hs4 j x h
  have hc0 : w4.cell? ⟨w.heap.size, 0, none⟩ = some (.int .u64 (s.a : Int)) := hcs 0 _ rfl
  have hc1 : w4.cell? ⟨w.heap.size, 1, none⟩ = some (.int .u64 (s.b : Int)) := hcs 1 _ rfl
  have hc2' : w4.cell? ⟨w.heap.size, 2, none⟩ = some (.int .u64 (s.c : Int)) := hcs 2 _ rfl
  have hc3 : w4.cell? ⟨w.heap.size, 3, none⟩ = some (.int .u64 (s.d : Int)) := hcs 3 _ rfl
  have hc4 : w4.cell? ⟨w.heap.size, 4, none⟩ = some (.int .u64 (s.e : Int)) := hcs 4 _ rfl
  have hc5 : w4.cell? ⟨w.heap.size, 5, none⟩ = some (.int .u64 (s.f : Int)) := hcs 5 _ rfl
  have hc6 : w4.cell? ⟨w.heap.size, 6, none⟩ = some (.int .u64 (s.g : Int)) := hcs 6 _ rfl
  have hc7 : w4.cell? ⟨w.heap.size, 7, none⟩ = some (.int .u64 (s.h : Int)) := hcs 7 _ rfl
  have Hs4 := hid hs4; have Hr4 := hid hr4; have Hw4 := hid hw4; have HG4 := hid hG4; have HB4 := hid hb4
  clear hcs hs4 hr4 hw4 hG4 hb4 Hs3 Hr3 HG3 HB3
  go_wp2
  go_quiet (fail)
  go_wp2
  go_quiet (fail)
  go_wp2
  clear hc0 hc1 hc2' hc3 hc4 hc5 hc6 hc7
  have HS := hid hs
  clear hs
  go_loopg [6, 7, 8, 9, 10, 11, 12, 13, 37] 80 (fun r x0 x1 x2 x3 x4 x5 x6 x7 i wr => ∃ (k : Nat) (v : St), k + r = 80 ∧ v = rndL kTabL (wordsToL m 80) s k ∧ x0 = .int .u64 (v.a : Int) ∧ x1 = .int .u64 (v.b : Int) ∧ x2 = .int .u64 (v.c : Int) ∧ x3 = .int .u64 (v.d : Int) ∧ x4 = .int .u64 (v.e : Int) ∧ x5 = .int .u64 (v.f : Int) ∧ x6 = .int .u64 (v.g : Int) ∧ x7 = .int .u64 (v.h : Int) ∧ i = .int .i64 (k : Int) ∧ ∃ n, wr = w4.drewN n)
  case atStart => exact ⟨0, s, rfl, rfl, rfl, rfl, rfl, rfl, rfl, rfl, rfl, rfl, rfl, _, World.drewN_drewN _ _ _⟩
  case round =>
    obtain ⟨k, v, hk, hv, rfl, rfl, rfl, rfl, rfl, rfl, rfl, rfl, rfl, hw⟩ := hrel
    have hcell : ∀ p, wr.cell? p = w4.cell? p := by obtain ⟨n, rfl⟩ := hw; exact fun p => rfl
    have HCELL := hid hcell
    have HW := hid hw
    clear hcell hw
    have hvo : v.okL := by rw [hv]; exact rndL_ok _ _ _ HS.out k
    have HV := hid hv
    have HK := hid hk
    have hkb : k ≤ 80 := by omega
    clear hk hv
    obtain ⟨va, vb, vc, vd, ve, vf, vg, vh⟩ := v
    obtain ⟨h1, h2, h3, h4, h5, h6, h7, h8⟩ := hvo
    simp only at h1 h2 h3 h4 h5 h6 h7 h8
    by_cases hlt : k < 80
    · have hx64 : (k : Int) < 80 := by omega
      have hk0 : (0 : Int) ≤ (k : Int) := by omega
      obtain ⟨q, heq, hq⟩ : ∃ q, q = kTabL.getD k 0 ∧ q < 18446744073709551616 := ⟨_, rfl, kTabL_lt k⟩
      obtain ⟨p, hep, hp⟩ : ∃ p, p = (wordsToL m 80).getD k 0 ∧ p < 18446744073709551616 := ⟨_, rfl, wordL_lt m 80 k hlt⟩
      have hcq : wr.cell? ⟨3, k, none⟩ = some (.int .u64 (q : Int)) := by rw [HCELL.out, heq]; exact HG4.out.1 k hlt
      have hcp : wr.cell? ⟨B5, k, none⟩ = some (.int .u64 (p : Int)) := by rw [HCELL.out, hep]; exact cell_of Hw4.out k _ (wcL_old m 80 k hlt)
      have HQ := hid heq; have HP := hid hep
      have HCH := hid (chL_bits ve vf vg h5 h6 h7)
      have HMJ := hid (majL_bits va vb vc h1 h2 h3)
      have hsg : IntKind.u64.signed = false := rfl
      clear heq hep
      go_wp2
      rw [HCH.out, HMJ.out]
      have HC1 := hid (S1L_any ve h5)
      go_quiet ((go_at_call 63; with_reducible exact HC1.out _ _))
      go_wp2_with fail
      refine (S0L_any va h1 _).mono ?_
      rintro e w' ⟨rfl, rfl⟩
      go_wp2
      have hst : St.stepL ⟨va, vb, vc, vd, ve, vf, vg, vh⟩ q p = rndL kTabL (wordsToL m 80) s (k + 1) := by
        rw [rndL, ← HV.out, ← HQ.out, ← HP.out]
      have hk := HK.out
      go_roundg (80 - k - 1)
      case measure => omega
      case rel => exact ⟨k + 1, _, by omega, hst, by rw [stepL_a], rfl, rfl, rfl, by rw [stepL_e], rfl, rfl, rfl, by go_num, by obtain ⟨n, hn⟩ := HW.out; exact ⟨_, by rw [hn, World.drewN_drewN]⟩⟩
    · obtain rfl : k = 80 := by omega
      clear HK hkb hlt
      have hs5 : wr.heap[w.heap.size]? = some (.cells (stL s) A8L (0, 0)) := by obtain ⟨n, hn⟩ := HW.out; rw [hn]; exact Hs4.out
      have hr5 : wr.heap[w.heap.size + 1]? = some (.cells z8 A8L (0, 0)) := by obtain ⟨n, hn⟩ := HW.out; rw [hn]; exact Hr4.out
      have hb5 : Below w.heap.size w wr := by obtain ⟨n, hn⟩ := HW.out; rw [hn]; exact below_drewN HB4.out n
      have hcs : ∀ j x, (stL s)[j]? = some x → wr.cell? ⟨w.heap.size, j, none⟩ = some x := fun j x h => cell_of hs5 j x h
      have hc0 : wr.cell? ⟨w.heap.size, 0, none⟩ = some (.int .u64 (s.a : Int)) := hcs 0 _ rfl
      have hc1 : wr.cell? ⟨w.heap.size, 1, none⟩ = some (.int .u64 (s.b : Int)) := hcs 1 _ rfl
      have hc2' : wr.cell? ⟨w.heap.size, 2, none⟩ = some (.int .u64 (s.c : Int)) := hcs 2 _ rfl
      have hc3 : wr.cell? ⟨w.heap.size, 3, none⟩ = some (.int .u64 (s.d : Int)) := hcs 3 _ rfl
      have hc4 : wr.cell? ⟨w.heap.size, 4, none⟩ = some (.int .u64 (s.e : Int)) := hcs 4 _ rfl
      have hc5 : wr.cell? ⟨w.heap.size, 5, none⟩ = some (.int .u64 (s.f : Int)) := hcs 5 _ rfl
      have hc6 : wr.cell? ⟨w.heap.size, 6, none⟩ = some (.int .u64 (s.g : Int)) := hcs 6 _ rfl
      have hc7 : wr.cell? ⟨w.heap.size, 7, none⟩ = some (.int .u64 (s.h : Int)) := hcs 7 _ rfl
      have Hr5 := hid hr5; have HB5 := hid hb5
      clear hcs hs5 hr5 hb5 HCELL HW h1 h2 h3 h4 h5 h6 h7 h8
      obtain ⟨pa, hpa⟩ : ∃ p, p = (s.a + va) % 18446744073709551616 := ⟨_, rfl⟩
      have hwa := addL s.a va
      rw [← hpa] at hwa
      obtain ⟨pb, hpb⟩ : ∃ p, p = (s.b + vb) % 18446744073709551616 := ⟨_, rfl⟩
      have hwb := addL s.b vb
      rw [← hpb] at hwb
      obtain ⟨pc, hpc⟩ : ∃ p, p = (s.c + vc) % 18446744073709551616 := ⟨_, rfl⟩
      have hwc := addL s.c vc
      rw [← hpc] at hwc
      obtain ⟨pd, hpd⟩ : ∃ p, p = (s.d + vd) % 18446744073709551616 := ⟨_, rfl⟩
      have hwd := addL s.d vd
      rw [← hpd] at hwd
      obtain ⟨pe, hpe⟩ : ∃ p, p = (s.e + ve) % 18446744073709551616 := ⟨_, rfl⟩
      have hwe := addL s.e ve
      rw [← hpe] at hwe
      obtain ⟨pf, hpf⟩ : ∃ p, p = (s.f + vf) % 18446744073709551616 := ⟨_, rfl⟩
      have hwf := addL s.f vf
      rw [← hpf] at hwf
      obtain ⟨pg, hpg⟩ : ∃ p, p = (s.g + vg) % 18446744073709551616 := ⟨_, rfl⟩
      have hwg := addL s.g vg
      rw [← hpg] at hwg
      obtain ⟨ph, hph⟩ : ∃ p, p = (s.h + vh) % 18446744073709551616 := ⟨_, rfl⟩
      have hwh := addL s.h vh
      rw [← hph] at hwh
      obtain ⟨M, hM⟩ : ∃ M, M = mixL kTabL s m := ⟨_, rfl⟩
      have hlit : #[Value.int .u64 (pa : Int), Value.int .u64 (pb : Int), Value.int .u64 (pc : Int), Value.int .u64 (pd : Int), Value.int .u64 (pe : Int), Value.int .u64 (pf : Int), Value.int .u64 (pg : Int), Value.int .u64 (ph : Int)] = stL M := by
        rw [hM, mixL, ← HV.out]
        simp only [St.plusL, ← hpa, ← hpb, ← hpc, ← hpd, ← hpe, ← hpf, ← hpg, ← hph]
        rfl
      have HLIT := hid hlit; have HMM := hid hM
      clear hlit hM hpa hpb hpc hpd hpe hpf hpg hph
      have HI : Hid ((Tryd.prog.info? 68).map (·.size) = some (stL M).size) := hid (info8L.trans (congrArg some (stL_size _).symm))
      have HI2 : Hid ((Tryd.prog.info? 68).map (·.size) = some (#[Value.int .u64 (pa : Int), Value.int .u64 (pb : Int), Value.int .u64 (pc : Int), Value.int .u64 (pd : Int), Value.int .u64 (pe : Int), Value.int .u64 (pf : Int), Value.int .u64 (pg : Int), Value.int .u64 (ph : Int)] : Array Value).size) := hid (by rw [HLIT.out]; exact HI.out)
      have HZ : Hid (z8.size = (#[Value.int .u64 (pa : Int), Value.int .u64 (pb : Int), Value.int .u64 (pc : Int), Value.int .u64 (pd : Int), Value.int .u64 (pe : Int), Value.int .u64 (pf : Int), Value.int .u64 (pg : Int), Value.int .u64 (ph : Int)] : Array Value).size) := hid (by rw [HLIT.out]; exact HZ8.out.trans (stL_size _).symm)
      have HOM : Hid ((#[Value.int .u64 (pa : Int), Value.int .u64 (pb : Int), Value.int .u64 (pc : Int), Value.int .u64 (pd : Int), Value.int .u64 (pe : Int), Value.int .u64 (pf : Int), Value.int .u64 (pg : Int), Value.int .u64 (ph : Int)] : Array Value).all (·.oneCell') = true) := hid (by rw [HLIT.out]; exact stL_one M)
      go_wp2_with (with_reducible refine wpList_store_row rfl 68 (.tmp 4) (.tmp 122) rfl (w.heap.size + 1) #[Value.int .u64 (pa : Int), Value.int .u64 (pb : Int), Value.int .u64 (pc : Int), Value.int .u64 (pd : Int), Value.int .u64 (pe : Int), Value.int .u64 (pf : Int), Value.int .u64 (pg : Int), Value.int .u64 (ph : Int)] rfl rfl A8L z8 Hr5.out HI2.out HZ.out HOM.out ?_)
      rw [HLIT.out]
      refine bodyPost_ret (v := .agg (stL M)) (results_cell_row rfl _ _ (w.heap.size + 1) A8L (stL M) (0, 0) _ rfl (setRow_heap _ _ _ _ _ _ Hr5.out) Tryd.underlying68 rfl HI.out) rfl ⟨by rw [HMM.out], ?_⟩
      exact below_setRow HB5.out (by omega) _
end Go.Proofs.YtokggppfobbblaaDoor
