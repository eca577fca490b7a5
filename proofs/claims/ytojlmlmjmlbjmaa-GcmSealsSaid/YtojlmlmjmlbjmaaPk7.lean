/-
  Texts of this claim in one file: Ref12a, Ref11c, Ref11d, Ref11e, Ref11f, Ref12d, Ref12e, Ref12f, Ref12g, Ref12h, Ref11g.
-/
import Derived.Test.YtojlmlmjmlbjmaaPk22
import Derived.Test.YtojlmlmjmlbjmaaPk23
import Derived.Test.YtojlmlmjmlbjmaaPk0
import Derived.Test.YtojlmlmjmlbjmaaPk6
import Derived.Test.YtojlmlmjmlbjmaaPk5
import Derived.Test.YtojlmlmjmlbjmaaPk2
import Derived.Deep.OwnRows
import Derived.Test.YtojlmlmjmlbjmaaPk10
import Derived.Test.YtojlmlmjmlbjmaaPk8
section
namespace Go.Proofs.Ytojlmlmjmlbjmaa
open Go.RowKit
set_option linter.unusedVariables false
set_option linter.unusedSimpArgs false
/-- The bit of x to the power n. -/
def gbit (f : Nat → Nat) (n : Nat) : Nat := f (n / 8) / 2 ^ (7 - n % 8) % 2
theorem gbit_le (f : Nat → Nat) (n : Nat) : gbit f n ≤ 1 := by unfold gbit; omega
theorem bit12_any (A : Option Addr) (xs : List UInt8) (m n c : Nat) (w : World) (hA : Lie w w.heap.size A (bvs xs)) (hm : xs.length = m) (hn : n < 8 * m) (hm2 : m ≤ 1000000) :
    Calls Try.prog 30 #[.slice A m c, .int .i64 (n : Int)] w fun e w' => e = .returned (.int .i64 ((gbit (bf xs) n : Nat) : Int)) ∧ w = w' := by
  obtain ⟨q, hq⟩ : ∃ q, q = n / 8 := ⟨_, rfl⟩
  obtain ⟨r, hr⟩ : ∃ r, r = n % 8 := ⟨_, rfl⟩
  obtain ⟨s, hs⟩ : ∃ s, s = 7 - r := ⟨_, rfl⟩
  have hq1 : ((n : Int)).tdiv 8 = (q : Int) := by rw [Int.tdiv_eq_ediv_of_nonneg (by omega)]; omega
  have hq2 : (n : Int) / 8 = (q : Int) := by omega
  have hqw : IntKind.i64.wrap (q : Int) = (q : Int) := IntWalk.i64_in _ (by omega)
  have hr1 : ((n : Int)).tmod 8 = (r : Int) := by rw [Int.tmod_eq_emod_of_nonneg (by omega)]; omega
  have hr2 : (n : Int) % 8 = (r : Int) := by omega
  have hrw : IntKind.i64.wrap (r : Int) = (r : Int) := IntWalk.i64_in _ (by omega)
  have hsw : IntKind.i64.wrap (7 - (r : Int)) = (s : Int) := (IntWalk.i64_in _ (by omega)).trans (by omega)
  have hqm : (q : Int) < (m : Int) := by omega
  have hq0 : (0 : Int) ≤ (q : Int) := by omega
  obtain ⟨b, o, rfl, hb, hc⟩ := hA.byte (k := q) (by omega)
  have hyb := bf_at xs q (by omega)
  obtain ⟨y, hy⟩ : ∃ y, y = bf xs q := ⟨_, rfl⟩
  rw [← hyb, ← hy] at hc
  have hyl : y < 256 := by rw [hy]; exact bf_lt xs q
  have hyw : IntKind.i64.wrap (y : Int) = (y : Int) := IntWalk.i64_in _ (by omega)
  have hs7 : s ≤ 7 := by omega
  have HV : Hid (gbit (bf xs) n = y / 2 ^ s % 2) := hid (by unfold gbit; rw [← hq, ← hr, ← hs, ← hy])
  have HYL := hid hyl
  clear hA hyb hy hyl hq hr hs hn hm
  go_enter Try.func30, Try.ntmps30
  go_wp2
  go_loopg [5, 6] s (fun g x ii wr => ∃ k : Nat, k + g = s ∧ ii = .int .i64 (k : Int) ∧ x = .int .i64 ((y / 2 ^ k : Nat) : Int) ∧ w = wr)
  case atStart => exact ⟨0, by omega, rfl, by simp, rfl⟩
  case round =>
    obtain ⟨k, hk, rfl, rfl, rfl⟩ := hrel
    have HK := hid hk
    have hks : k ≤ s := by omega
    obtain ⟨x, hx⟩ : ∃ x, x = y / 2 ^ k := ⟨_, rfl⟩
    have hxl : x < 256 := by rw [hx]; exact Nat.lt_of_le_of_lt (Nat.div_le_self _ _) HYL.out
    rw [← hx]
    have HX := hid hx
    clear hk hx
    by_cases hlt : k < s
    · have hki : (k : Int) < (s : Int) := by omega
      have hwi : IntKind.i64.wrap ((k : Int) + 1) = ((k + 1 : Nat) : Int) := (IntWalk.i64_in _ (by omega)).trans (by omega)
      obtain ⟨z, hz⟩ : ∃ z, z = x / 2 := ⟨_, rfl⟩
      have hz1 : ((x : Int)).tdiv 2 = (z : Int) := by rw [Int.tdiv_eq_ediv_of_nonneg (by omega)]; omega
      have hz2 : (x : Int) / 2 = (z : Int) := by omega
      have hzw : IntKind.i64.wrap (z : Int) = (z : Int) := IntWalk.i64_in _ (by omega)
      have HZ := hid hz
      clear hz hxl
      go_wp2
      have hk := HK.out
      go_roundg (s - k - 1)
      case measure => omega
      case rel => exact ⟨k + 1, by omega, rfl, by rw [HZ.out, HX.out, Nat.pow_succ, Nat.div_div_eq_div_mul], rfl⟩
    · have hke : k = s := by omega
      have hki : ¬ (k : Int) < (s : Int) := by omega
      obtain ⟨z, hz⟩ : ∃ z, z = x % 2 := ⟨_, rfl⟩
      have hz1 : ((x : Int)).tmod 2 = (z : Int) := by rw [Int.tmod_eq_emod_of_nonneg (by omega)]; omega
      have hz2 : (x : Int) % 2 = (z : Int) := by omega
      have hzw : IntKind.i64.wrap (z : Int) = (z : Int) := IntWalk.i64_in _ (by omega)
      have HZ : Hid (gbit (bf xs) n = z) := hid (by rw [HV.out, hz, HX.out, hke])
      clear hz hke
      go_wp2
      go_ret
      exact ⟨ret_i (by rw [HZ.out]), rfl⟩
/-- Two lists held against another. -/
def xorL : List UInt8 → List UInt8 → List UInt8
  | a :: xs, b :: ys => UInt8.ofNat (a.toNat ^^^ b.toNat) :: xorL xs ys
  | _, _ => []
theorem xorL_length : ∀ (xs ys : List UInt8), xs.length ≤ ys.length → (xorL xs ys).length = xs.length
  | [], _, _ => rfl
  | a :: xs, [], h => by simp at h
  | a :: xs, b :: ys, h => by simp only [xorL, List.length_cons]; rw [xorL_length xs ys (by simpa using h)]
theorem xorL_at : ∀ (xs ys : List UInt8) (k : Nat) (h : k < xs.length) (h' : k < ys.length), (xorL xs ys)[k]? = some (UInt8.ofNat (xs[k].toNat ^^^ ys[k].toNat))
  | a :: xs, b :: ys, 0, _, _ => rfl
  | a :: xs, b :: ys, k + 1, h, h' => by
    simp only [xorL, List.getElem?_cons_succ, List.getElem_cons_succ]
    exact xorL_at xs ys k (by simpa using h) (by simpa using h')
theorem xorL_take (xs ys : List UInt8) (hl : xs.length ≤ ys.length) (k : Nat) (h : k < xs.length) : (xorL xs ys).take (k + 1) = (xorL xs ys).take k ++ [UInt8.ofNat (xs[k].toNat ^^^ (ys[k]'(by omega)).toNat)] := by
  rw [List.take_succ_eq_append_getElem (by rw [xorL_length xs ys hl]; exact h)]
  congr 2
  have e := xorL_at xs ys k h (by omega)
  rw [List.getElem?_eq_getElem (by rw [xorL_length xs ys hl]; exact h)] at e
  exact Option.some.inj e
theorem u8x_nat (a b : Nat) (ha : a < 256) (hb : b < 256) : bits .xor .u8 (a : Int) (b : Int) = ((a ^^^ b : Nat) : Int) := u8_xor_nat a b ha hb
set_option maxHeartbeats 1000000 in
theorem xor12_any (A A' : Option Addr) (xs ys : List UInt8) (n n' c c' : Nat) (w : World) (hA : Lie w w.heap.size A (bvs xs)) (hA' : Lie w w.heap.size A' (bvs ys)) (hn : xs.length = n) (hn' : ys.length = n') (hle : n ≤ n') (hn2 : n ≤ 1000000) :
    Calls Try.prog 25 #[.slice A n c, .slice A' n' c'] w fun e w' => ∃ v, e = .returned v ∧ OwnB w' w.heap.size v (xorL xs ys) ∧ Below w.heap.size w w' := by
  have HA := hid hA; have HA' := hid hA'; have HN := hid hn; have HN' := hid hn'
  clear hA hA' hn hn'
  go_enter Try.func25, Try.ntmps25
  go_wp2
  go_loopg [5, 6] n (fun g v ii wr => ∃ k : Nat, k + g = n ∧ ii = .int .i64 (k : Int) ∧ OwnB wr w.heap.size v ((xorL xs ys).take k) ∧ Below w.heap.size w wr)
  case atStart => exact ⟨0, by omega, rfl, World.ownsRow_nil _ _ _ _, Below.refl _ _⟩
  case round =>
    obtain ⟨k, hk, rfl, ho, hb⟩ := hrel
    have HK := hid hk; have HO := hid ho; have HB := hid hb
    have hkn : k ≤ n := by omega
    clear hk ho hb
    by_cases hlt : k < n
    · have hx : (k : Int) < (n : Int) := by omega
      have hx' : (k : Int) < (n' : Int) := by omega
      have hk0 : (0 : Int) ≤ (k : Int) := by omega
      have hka : k < xs.length := by rw [HN.out]; exact hlt
      have hkb : k < ys.length := by rw [HN'.out]; omega
      obtain ⟨b1, o1, rfl, h1, hc1⟩ := (HA.out.below HB.out).byte hka
      obtain ⟨b2, o2, rfl, h2, hc2⟩ := (HA'.out.below HB.out).byte hkb
      have hst := xorL_take xs ys (by rw [HN.out, HN'.out]; exact hle) k hka
      obtain ⟨x, hxx⟩ : ∃ x, x = xs[k].toNat := ⟨_, rfl⟩
      obtain ⟨y, hyy⟩ : ∃ x, x = ys[k].toNat := ⟨_, rfl⟩
      rw [← hxx] at hc1 hst
      rw [← hyy] at hc2 hst
      have hxl : x < 256 := by rw [hxx]; exact UInt8.toNat_lt _
      have hyl : y < 256 := by rw [hyy]; exact UInt8.toNat_lt _
      have hxor := u8x_nat x y hxl hyl
      obtain ⟨z, hz⟩ : ∃ z, z = x ^^^ y := ⟨_, rfl⟩
      rw [← hz] at hxor hst
      have hzl : z < 256 := by rw [hz]; exact xor_b hxl hyl
      have hwi : IntKind.i64.wrap ((k : Int) + 1) = ((k + 1 : Nat) : Int) := (IntWalk.i64_in _ (by omega)).trans (by omega)
      have hlen : ((xorL xs ys).take k).length = k := by rw [List.length_take, xorL_length xs ys (by rw [HN.out, HN'.out]; exact hle), HN.out]; omega
      have HST := hid hst; have HZL := hid hzl
      clear hst hxx hyy hxl hyl hz hzl hka hkb h1 h2
      go_wp2
      refine wp_region_first_tail u5 10 (by kernel_rfl) rfl (by kernel_rfl) (fun _ _ _ h => h) (Or.inl ⟨by rfl, fun _ => rfl⟩) ?_
      simp only [List.drop_succ_cons, List.drop_zero, List.take_succ_cons, List.take_zero]
      go_simp
      repeat (quiet_step (fail))
      refine wpQuiet_nil ?_
      intro ne
      obtain ⟨we, hwe⟩ : ∃ we : World, we = wr.drewN ne := ⟨_, rfl⟩
      have hBE : Below w.heap.size w we := by rw [hwe]; exact ⟨HB.out.os, HB.out.tape, HB.out.output, HB.out.size, HB.out.block⟩
      have hOE : OwnB we w.heap.size u5 ((xorL xs ys).take k) := by rw [hwe]; exact HO.out
      rw [← hwe]
      have HO1 := hid (World.ownsRow.alloc hOE (.cells #[.int .u8 (z : Int)] 5))
      have HBE := hid hBE
      have hsz := hBE.size
      clear hwe hBE hOE HO HB
      go_wp2_with (at_builtin; refine wpList_append_lie rfl _ _ 22 rfl w.heap.size 5 (.int .u8 0) 1 Try.underlying22 infoU8 rfl rfl HO1.out rfl rfl (Lie.new1 _ _ _) (by intro u hu; simp at hu; subst hu; rfl) ?e1 ?e2 ?e3 ?_)
      case e1 => rw [hlen]; first | (rw [List.length_singleton]; unfold maxLen; omega) | (unfold maxLen; omega)
      case e2 => rw [hlen]; first | (rw [List.length_singleton]; omega) | omega
      case e3 => first | (simp; omega) | omega
      intro v3 w3 hown3 hg3 _
      have hb3 : Below w.heap.size w w3 := (HBE.out.alloc hsz _).grown hg3 (by simp; omega) (fun q h => own_lt HO1.out q h)
      have HO3 : Hid (OwnB w3 w.heap.size v3 ((xorL xs ys).take (k + 1))) := hid (by
        rw [HST.out]
        exact own_snoc hown3 (by rw [hlen]) (by rw [ofNat_b HZL.out]))
      have HB3 := hid hb3
      clear hown3 hg3 hb3 HO1 HBE hsz hlen
      go_wp2
      have hk := HK.out
      go_roundg (n - k - 1)
      case measure => omega
      case rel => exact ⟨k + 1, by omega, rfl, HO3.out, HB3.out⟩
    · have hke : k = n := by omega
      have hx : ¬ (k : Int) < (n : Int) := by omega
      have HOe : Hid (OwnB wr w.heap.size u5 (xorL xs ys)) := hid (by
        have h := HO.out
        rwa [List.take_of_length_le (by rw [xorL_length xs ys (by rw [HN.out, HN'.out]; exact hle), HN.out]; omega)] at h)
      clear hke
      go_wp2
      go_ret
      exact ⟨_, rfl, HOe.out, HB.out⟩
/-- With 0 behind to whole blocks. -/
def fillL (xs : List UInt8) : List UInt8 := xs ++ List.replicate ((16 - xs.length % 16) % 16) 0
theorem fillL_length (xs : List UInt8) : (fillL xs).length = (xs.length + 15) / 16 * 16 := by unfold fillL; rw [List.length_append, List.length_replicate]; omega
theorem row_noneA (W : World) (e : TypeId) {k base : Nat} (h : W.heap.size = k) (hb : base ≤ k) : (W.alloc (.cells #[] e)).ownsRow base e 1 (.slice (some ⟨k, 0, none⟩) 0 0) 0 [] := by
  subst h
  exact World.ownsRow_lit W #[] 0 hb (by simp) rfl
set_option maxHeartbeats 1000000 in
theorem filled12_any (A : Option Addr) (xs : List UInt8) (n c : Nat) (w : World) (hA : Lie w w.heap.size A (bvs xs)) (hn : xs.length = n) (hn2 : n ≤ 1000000) :
    Calls Try.prog 23 #[.slice A n c] w fun e w' => ∃ v, e = .returned v ∧ OwnB w' w.heap.size v (fillL xs) ∧ Below w.heap.size w w' := by
  have HA := hid hA; have HN := hid hn
  have HAL : Hid (Lie (w.alloc (.cells #[] 5)) w.heap.size A (bvs xs)) := hid (hA.alloc (Nat.le_refl _) _)
  obtain ⟨p, hp⟩ : ∃ p, p = (16 - n % 16) % 16 := ⟨_, rfl⟩
  have HP := hid hp
  clear hA hn hp
  go_enter Try.func23, Try.ntmps23
  go_wp2_with (at_builtin; refine wpList_append_lie rfl _ _ 22 rfl w.heap.size 5 (.int .u8 0) 1 Try.underlying22 infoU8 rfl rfl (row_noneA _ _ (k := w.heap.size) rfl (Nat.le_refl _)) ((bvs_length xs).trans HN.out) rfl HAL.out (bvs_one xs) ?d1 ?d2 ?d3 ?_)
  case d1 => unfold maxLen; omega
  case d2 => omega
  case d3 => simp
  intro v2 w2 hown2 hg2 _
  have hO2 : OwnB w2 w.heap.size v2 (xs ++ List.replicate 0 0) := by rw [List.replicate_zero, List.append_nil]; unfold OwnB; rw [HN.out]; simpa using hown2
  have hB2 : Below w.heap.size w w2 := ((Below.refl _ _).alloc (Nat.le_refl _) _).grown hg2 (by simp) (fun q h => by simp [Value.ownBlock] at h; omega)
  have HO2 := hid hO2; have HB2 := hid hB2
  clear hown2 hg2 hO2 hB2 HAL
  go_wp2
  go_loopg [3] p (fun g v wr => ∃ k : Nat, k + g = p ∧ OwnB wr w.heap.size v (xs ++ List.replicate k 0) ∧ Below w.heap.size w wr)
  case atStart => exact ⟨0, by omega, HO2.out, HB2.out⟩
  case round =>
    clear HO2 HB2
    obtain ⟨k, hk, ho, hb⟩ := hrel
    obtain ⟨Av, cv, rfl, _⟩ := own_sl ho
    have hlen : (xs ++ List.replicate k (0 : UInt8)).length = n + k := by rw [List.length_append, List.length_replicate, HN.out]
    have HK := hid hk; have HO := hid ho; have HB := hid hb
    have hkp : k ≤ p := by omega
    clear hk ho hb
    obtain ⟨L, hL⟩ : ∃ L, L = (xs ++ List.replicate k (0 : UInt8)).length := ⟨_, rfl⟩
    rw [← hL]
    have hLn : L = n + k := by rw [hL, hlen]
    obtain ⟨r, hr⟩ : ∃ r, r = L % 16 := ⟨_, rfl⟩
    have hr1 : ((L : Int)).tmod 16 = (r : Int) := by rw [Int.tmod_eq_emod_of_nonneg (by omega)]; omega
    have hr2 : (L : Int) % 16 = (r : Int) := by omega
    have hrw : IntKind.i64.wrap (r : Int) = (r : Int) := IntWalk.i64_in _ (by omega)
    have hp16 : p ≤ 15 := by have := HP.out; omega
    have HL := hid hL; have HLN := hid hLn
    by_cases hlt : k < p
    · have hr0 : (0 : Int) < (r : Int) := by have := HP.out; omega
      have hLl : L ≤ 1000100 := by omega
      have HO1 : Hid _ := hid (World.ownsRow.alloc (show wr.ownsRow w.heap.size 5 1 (.slice Av L cv) L (bvs (xs ++ List.replicate k (0 : UInt8))) by rw [HL.out]; exact HO.out) (.cells #[.int .u8 0] 5))
      have hsz := HB.out.size
      clear hL hlen hr HO hLn
      go_wp2_with (at_builtin; refine wpList_append_lie rfl _ _ 22 rfl w.heap.size 5 (.int .u8 0) 1 Try.underlying22 infoU8 rfl rfl HO1.out rfl rfl (Lie.new1 _ _ _) (by intro u hu; simp at hu; subst hu; rfl) ?e1 ?e2 ?e3 ?_)
      case e1 => first | (rw [List.length_singleton]; unfold maxLen; omega) | (unfold maxLen; omega)
      case e2 => first | (rw [List.length_singleton]; omega) | omega
      case e3 => first | (simp; omega) | omega
      intro v3 w3 hown3 hg3 _
      have hb3 : Below w.heap.size w w3 := (HB.out.alloc hsz _).grown hg3 (by simp; omega) (fun q h => own_lt HO1.out q h)
      have HO3 : Hid (OwnB w3 w.heap.size v3 (xs ++ List.replicate (k + 1) 0)) := hid (by
        rw [List.replicate_succ', ← List.append_assoc]
        exact own_snoc hown3 (by rw [HL.out]) rfl)
      have HB3 := hid hb3
      clear hown3 hg3 hb3 HO1 HB hsz
      go_wp2
      have hk := HK.out
      go_roundg (p - k - 1)
      case measure => omega
      case rel => exact ⟨k + 1, by omega, HO3.out, HB3.out⟩
    · have hke : k = p := by omega
      have hr0 : ¬ (0 : Int) < (r : Int) := by have := HP.out; omega
      have HOe : Hid (OwnB wr w.heap.size (.slice Av L cv) (fillL xs)) := hid (by
        unfold fillL
        rw [HN.out, ← HP.out, ← hke, HL.out]; exact HO.out)
      clear hL hlen hr HO hke hLn
      go_wp2
      go_ret
      exact ⟨_, rfl, HOe.out, HB.out⟩
end Go.Proofs.Ytojlmlmjmlbjmaa
end
section
namespace Go.Proofs.Ytojlmlmjmlbjmaa
open Go.RowKit
set_option linter.unusedVariables false
set_option linter.unusedSimpArgs false
/-- Whole numbers as cells. -/
def iR (f : Nat → Nat) (n : Nat) : List Value := (List.range n).map fun i => .int .i64 ((f i : Nat) : Int)
theorem iR_succ (f : Nat → Nat) (n : Nat) : iR f (n + 1) = iR f n ++ [.int .i64 ((f n : Nat) : Int)] := by unfold iR; rw [List.range_succ, List.map_append]; rfl
theorem iR_at (f : Nat → Nat) (n j : Nat) (h : j < n) : (iR f n)[j]? = some (.int .i64 ((f j : Nat) : Int)) := by unfold iR; simp [h]
theorem iR_congr {f g : Nat → Nat} (n : Nat) (h : ∀ i, i < n → f i = g i) : iR f n = iR g n := by
  unfold iR
  exact List.map_congr_left fun i hi => by rw [h i (by simpa using hi)]
/-- A row of whole numbers lies below B. -/
structure Ints (w : World) (B : Nat) (A : Option Addr) (c : Nat) (f : Nat → Nat) (n : Nat) : Prop where
  at_ : ∃ g, A = some ⟨g, 0, none⟩ ∧ g < B ∧ ∀ j, j < n → w.cell? ⟨g, j, none⟩ = some (.int .i64 ((f j : Nat) : Int))
  cap : n ≤ c ∧ c ≤ 9223372036854775807
theorem Ints.below {w w' : World} {B c n : Nat} {A : Option Addr} {f : Nat → Nat} (h : Ints w B A c f n) (hb : Below B w w') : Ints w' B A c f n := by
  obtain ⟨⟨g, hA, hg, hc⟩, h2⟩ := h
  exact ⟨⟨g, hA, hg, fun j hj => (hb.cell (p := ⟨g, j, none⟩) hg).trans (hc j hj)⟩, h2⟩
theorem Ints.more {w : World} {B B' c n : Nat} {A : Option Addr} {f : Nat → Nat} (h : Ints w B A c f n) (hB : B ≤ B') : Ints w B' A c f n := by
  obtain ⟨⟨g, hA, hg, hc⟩, h2⟩ := h
  exact ⟨⟨g, hA, by omega, hc⟩, h2⟩
/-- A row that the call owns. -/
theorem ints_own {w : World} {B n : Nat} {v : Value} {f : Nat → Nat} (h : w.ownsRow B 3 1 v n (iR f n)) (hn : 0 < n) : ∃ A c, v = .slice A n c ∧ Ints w w.heap.size A c f n := by
  obtain ⟨hl, h⟩ := h
  rcases h with ⟨h1, h2⟩ | ⟨g, cap, cur, hv, hb, hg, h1, h2, h3, h4⟩
  · omega
  · refine ⟨_, cap, hv, ⟨g, rfl, block_lt hg, fun j hj => cell_of hg j _ ?_⟩, h1, by simpa [maxLen] using h2⟩
    have h9 := iR_at f n j hj
    rw [← h4, Nat.mul_one, List.getElem?_take_of_lt hj] at h9
    rw [← Array.getElem?_toList]
    exact h9
theorem infoI1 : (Try.prog.info? 3).map (fun i => (i.zero, i.size, i.bytes)) = some (some (.int .i64 0), 1, 8) := by kernel_rfl
theorem boxN_lt (a : Nat) : boxN a < 256 := bxN_lt _ 8
set_option maxHeartbeats 1000000 in
theorem Boxes11_any (w : World) : Calls Try.prog 12 #[] w fun e w' => ∃ A c, e = .returned (.slice A 256 c) ∧ Ints w' w'.heap.size A c boxN 256 ∧ Below w.heap.size w w' := by
  go_enter Try.func12, Try.ntmps12
  go_wp2
  go_loopg [1, 2] 256 (fun g v i wr => ∃ k : Nat, k + g = 256 ∧ i = .int .i64 (k : Int) ∧ wr.ownsRow w.heap.size 3 1 v k (iR boxN k) ∧ Below w.heap.size w wr)
  case atStart => exact ⟨0, rfl, rfl, ⟨rfl, .inl ⟨rfl, rfl⟩⟩, Below.refl _ _⟩
  case round =>
    obtain ⟨k, hk, rfl, ho, hb⟩ := hrel
    have HK := hid hk; have HO := hid ho; have HB := hid hb
    have hk256 : k ≤ 256 := by omega
    clear hk ho hb
    by_cases hlt : k < 256
    · have hx : (k : Int) < 256 := by omega
      have KB := hid (Box11_any k hlt wr)
      obtain ⟨t, ht⟩ : ∃ t, t = boxN k := ⟨_, rfl⟩
      rw [← ht] at KB
      have HT := hid ht
      have hwi : IntKind.i64.wrap ((k : Int) + 1) = ((k + 1 : Nat) : Int) := (IntWalk.i64_in _ (by omega)).trans (by omega)
      clear ht
      go_wp2_with fail
      refine KB.out.mono ?_
      rintro e w2 ⟨rfl, hb2⟩
      have ho2 : w2.ownsRow w.heap.size 3 1 u1 k (iR boxN k) := World.ownsRow.kept HO.out (row := none) ⟨hb2.os, hb2.tape, hb2.output, hb2.size, fun q hq _ => hb2.block q hq⟩ (by cases hv : u1.ownBlock <;> simp)
      have HO2 := hid (World.ownsRow.alloc ho2 (.cells #[.int .i64 (t : Int)] 3))
      have HB2 : Hid (Below w.heap.size w w2) := hid (HB.out.trans (hb2.mono HB.out.size))
      clear ho2 hb2 HO HB
      have hsz := HB2.out.size
      go_wp2_with (at_builtin; refine wpList_append_lie rfl _ _ 29 rfl w.heap.size 3 (.int .i64 0) 8 Try.underlying29 infoI1 rfl rfl HO2.out rfl rfl (Lie.new1 _ _ _) (by intro u hu; simp at hu; subst hu; rfl) ?e1 ?e2 ?e3 ?_)
      case e1 => rw [List.length_singleton]; unfold maxLen; omega
      case e2 => rw [List.length_singleton]; omega
      case e3 => simp; omega
      intro v3 w3 hown3 hg3 _
      have hb3 : Below w.heap.size w w3 := (HB2.out.alloc hsz _).grown hg3 (by simp; omega) (fun q h => own_lt HO2.out q h)
      have HO3 : Hid (w3.ownsRow w.heap.size 3 1 v3 (k + 1) (iR boxN (k + 1))) := hid (by rw [iR_succ, ← HT.out]; exact hown3)
      have HB3 := hid hb3
      clear hown3 hg3 hb3 HO2 HB2 hsz
      go_wp2
      have hk := HK.out
      go_roundg (256 - k - 1)
      case measure => omega
      case rel => exact ⟨k + 1, by omega, rfl, HO3.out, HB3.out⟩
    · have hke : k = 256 := by omega
      have hx : ¬ (k : Int) < 256 := by omega
      rw [hke] at HO
      obtain ⟨A, c, rfl, hI⟩ := ints_own HO.out (by omega)
      have HI := hid hI
      clear hI hke
      go_wp2
      go_ret
      exact ⟨A, c, rfl, HI.out, HB.out⟩
set_option maxRecDepth 100000 in
set_option maxHeartbeats 2000000 in
theorem pw11_loop {Q : Exit → Act → World → Prop} (i m : Nat) (w : World) (t0 t1 t2 t3 t4 t5 t7 t8 t9 t12 t13 t14 t15 t16 t17 t18 t19 t20 t21 t22 t23 t24 t25 t26 t27 t28 t29 t30 t31 t32 t33 t34 t35 t36 t37 t38 t39 t40 t41 t42 t43 t44 t45 t46 t47 t48 t49 t50 t51 t52 t53 t54 t55 t56 t57 t58 t59 t60 t61 t62 t63 t64 t65 t66 t67 t68 t69 t70 t71 t72 t73 t74 t75 t76 t77 t78 t79 t80 t81 t82 t83 t84 t85 t86 t87 t88 t89 t90 t91 t92 : Value) (hi : i < 44) (hm : m = i / 4) (hm1 : 1 ≤ m)
    (hexit : ∀ u64 u65 u66 u67 u68 u69 u70 u71 : Value, Q (.exit 4) ⟨(t0 :: t1 :: t2 :: t3 :: t4 :: t5 :: (.int .i64 (i : Int)) :: t7 :: t8 :: t9 :: (.int .i64 ((dbk 1 (m - 1) : Nat) : Int)) :: (.int .i64 (m : Int)) :: t12 :: t13 :: t14 :: t15 :: t16 :: t17 :: t18 :: t19 :: t20 :: t21 :: t22 :: t23 :: t24 :: t25 :: t26 :: t27 :: t28 :: t29 :: t30 :: t31 :: t32 :: t33 :: t34 :: t35 :: t36 :: t37 :: t38 :: t39 :: t40 :: t41 :: t42 :: t43 :: t44 :: t45 :: t46 :: t47 :: t48 :: t49 :: t50 :: t51 :: t52 :: t53 :: t54 :: t55 :: t56 :: t57 :: t58 :: t59 :: t60 :: t61 :: t62 :: t63 :: u64 :: u65 :: u66 :: u67 :: u68 :: u69 :: u70 :: u71 :: t72 :: t73 :: t74 :: t75 :: t76 :: t77 :: t78 :: t79 :: t80 :: t81 :: t82 :: t83 :: t84 :: t85 :: t86 :: t87 :: t88 :: t89 :: t90 :: t91 :: t92 :: []).toArray, []⟩ w) :
    Code.wp Try.prog (Code.loop (loopN Try.f38 2)) Q ⟨(t0 :: t1 :: t2 :: t3 :: t4 :: t5 :: (.int .i64 (i : Int)) :: t7 :: t8 :: t9 :: (.int .i64 1) :: (.int .i64 1) :: t12 :: t13 :: t14 :: t15 :: t16 :: t17 :: t18 :: t19 :: t20 :: t21 :: t22 :: t23 :: t24 :: t25 :: t26 :: t27 :: t28 :: t29 :: t30 :: t31 :: t32 :: t33 :: t34 :: t35 :: t36 :: t37 :: t38 :: t39 :: t40 :: t41 :: t42 :: t43 :: t44 :: t45 :: t46 :: t47 :: t48 :: t49 :: t50 :: t51 :: t52 :: t53 :: t54 :: t55 :: t56 :: t57 :: t58 :: t59 :: t60 :: t61 :: t62 :: t63 :: t64 :: t65 :: t66 :: t67 :: t68 :: t69 :: t70 :: t71 :: t72 :: t73 :: t74 :: t75 :: t76 :: t77 :: t78 :: t79 :: t80 :: t81 :: t82 :: t83 :: t84 :: t85 :: t86 :: t87 :: t88 :: t89 :: t90 :: t91 :: t92 :: []).toArray, []⟩ w := by
  conv => arg 2; arg 1; whnf
  have HM := hid hm
  have hml : m ≤ 10 := by omega
  have hq1 : ((i : Int)).tdiv 4 = (m : Int) := by rw [Int.tdiv_eq_ediv_of_nonneg (by omega)]; omega
  have hq2 : (i : Int) / 4 = (m : Int) := by omega
  have hqw : IntKind.i64.wrap (m : Int) = (m : Int) := IntWalk.i64_in _ (by omega)
  clear hm
  go_loopg [10, 11] (m - 1) (fun g p n wr => ∃ k : Nat, k + g = m - 1 ∧ n = .int .i64 ((k + 1 : Nat) : Int) ∧ p = .int .i64 ((dbk 1 k : Nat) : Int) ∧ w = wr)
  case atStart => exact ⟨0, by omega, rfl, rfl, rfl⟩
  case round =>
    obtain ⟨k, hk, rfl, rfl, rfl⟩ := hrel
    have HK := hid hk
    obtain ⟨p, hp⟩ : ∃ p, p = dbk 1 k := ⟨_, rfl⟩
    have hpl : p < 256 := by rw [hp]; exact dbk_lt (by decide) k
    rw [← hp]
    obtain ⟨n, hn⟩ : ∃ n, n = k + 1 := ⟨_, rfl⟩
    rw [← hn]
    have hnm : n ≤ m := by omega
    have HP := hid hp; have HN := hid hn
    clear hp hk hn
    by_cases hlt : n < m
    · have hx : (n : Int) < (m : Int) := by omega
      have KT : Hid (∀ W, _) := hid fun W => Times11_any p 2 hpl (by decide) W
      have ht : tmN p 2 = dbk 1 (k + 1) := by rw [← dblN_tm p hpl, HP.out]; rfl
      rw [ht] at KT
      have hwi : IntKind.i64.wrap ((n : Int) + 1) = ((k + 1 + 1 : Nat) : Int) := (IntWalk.i64_in _ (by omega)).trans (by have := HN.out; omega)
      clear ht hpl hexit
      go_wp2_with fail
      refine (KT.out _).mono ?_
      rintro e w' ⟨rfl, rfl⟩
      go_wp2
      have hk := HK.out
      have hn := HN.out
      go_roundg (m - 1 - k - 1)
      case measure => omega
      case rel => exact ⟨k + 1, by omega, rfl, rfl, rfl⟩
    · have hnm2 : n = m := by omega
      have hx : ¬ (n : Int) < (m : Int) := by omega
      have hpe : p = dbk 1 (m - 1) := by rw [HP.out]; congr 1; have := HN.out; omega
      subst hnm2
      subst hpe
      go_wp2
      exact hexit _ _ _ _ _ _ _ _
end Go.Proofs.Ytojlmlmjmlbjmaa
end
section
namespace Go.Proofs.Ytojlmlmjmlbjmaa
open Go.RowKit
set_option linter.unusedVariables false
set_option linter.unusedSimpArgs false
/-- The byte k of word i. -/
def dwW (K : Nat → Nat) (i k : Nat) : Nat := kW K (i / 4) (4 * (i % 4) + k)
theorem dwW_lt {K : Nat → Nat} (hK : ∀ i, K i < 256) (i k : Nat) : dwW K i k < 256 := kW_lt hK _ _
theorem dwW_first (K : Nat → Nat) (i k : Nat) (hi : i < 4) : dwW K i k = K (4 * i + k) := by
  unfold dwW
  rw [show i / 4 = 0 by omega, show i % 4 = i by omega]; rfl
theorem nx_at (S : Nat → Nat) (p c k : Nat) (hk : k < 4) : nx S p (4 * c + k) = nxc S p c k := by
  unfold nx
  rw [show (4 * c + k) / 4 = c by omega, show (4 * c + k) % 4 = k by omega]
theorem dwW_plain (K : Nat → Nat) (i k : Nat) (hi : 4 ≤ i) (hk : k < 4) (h0 : i % 4 ≠ 0) : dwW K i k = dwW K (i - 4) k ^^^ dwW K (i - 1) k := by
  obtain ⟨n, c, rfl, hc⟩ : ∃ n c, i = 4 * (n + 1) + (c + 1) ∧ c < 3 := ⟨i / 4 - 1, i % 4 - 1, by omega, by omega⟩
  unfold dwW
  rw [show (4 * (n + 1) + (c + 1)) / 4 = n + 1 by omega, show (4 * (n + 1) + (c + 1)) % 4 = c + 1 by omega, show (4 * (n + 1) + (c + 1) - 4) / 4 = n by omega, show (4 * (n + 1) + (c + 1) - 4) % 4 = c + 1 by omega,
    show (4 * (n + 1) + (c + 1) - 1) / 4 = n + 1 by omega, show (4 * (n + 1) + (c + 1) - 1) % 4 = c by omega]
  show nx (kW K n) (dbk 1 n) (4 * (c + 1) + k) = kW K n (4 * (c + 1) + k) ^^^ nx (kW K n) (dbk 1 n) (4 * c + k)
  rw [nx_at _ _ _ _ hk, nx_at _ _ _ _ hk, Nat.xor_comm]; rfl
theorem dwW_turn {K : Nat → Nat} (hK : ∀ i, K i < 256) (i k : Nat) (hi : 4 ≤ i) (hk : k < 4) (h0 : i % 4 = 0) :
    dwW K i k = dwW K (i - 4) k ^^^ (boxN (dwW K (i - 1) ((k + 1) % 4)) ^^^ (if k = 0 then dbk 1 (i / 4 - 1) else 0)) := by
  obtain ⟨n, rfl⟩ : ∃ n, i = 4 * (n + 1) := ⟨i / 4 - 1, by omega⟩
  unfold dwW
  rw [show 4 * (n + 1) / 4 = n + 1 by omega, show 4 * (n + 1) % 4 = 0 by omega, show (4 * (n + 1) - 4) / 4 = n by omega, show (4 * (n + 1) - 4) % 4 = 0 by omega,
    show (4 * (n + 1) - 1) / 4 = n by omega, show (4 * (n + 1) - 1) % 4 = 3 by omega, show n + 1 - 1 = n by omega]
  show nx (kW K n) (dbk 1 n) (4 * 0 + k) = _
  rw [nx_at _ _ _ _ hk, ← boxC_is _ (kW_lt hK _ _), Nat.xor_comm, Nat.mul_zero, Nat.zero_add]; rfl
theorem kW_dw (K : Nat → Nat) (n i : Nat) (hi : i < 16) : kW K n i = dwW K (4 * n + i / 4) (i % 4) := by
  unfold dwW
  rw [show (4 * n + i / 4) / 4 = n by omega, show (4 * n + i / 4) % 4 = i / 4 by omega, show 4 * (i / 4) + i % 4 = i by omega]
/-- The j-th of i rows lies there. -/
def RowAt (w : World) (Aw : Option Addr) (i cw : Nat) (K : Nat → Nat) (j : Nat) : Prop :=
  ∃ b A c, Aw = some ⟨b, 0, none⟩ ∧ i ≤ cw ∧ cw ≤ 9223372036854775807 ∧ b < w.heap.size ∧ w.cell? ⟨b, j, none⟩ = some (.slice A 4 c) ∧ Ints w w.heap.size A c (dwW K j) 4
set_option maxRecDepth 100000 in
set_option maxHeartbeats 4000000 in
theorem word11_loop {Q : Exit → Act → World → Prop} (i : Nat) (A Ab Aw : Option Addr) (c cb cw : Nat) (key : List UInt8) (wi : World) (t2 t3 t4 t9 t10 t11 t12 t13 t14 t15 t16 t17 t18 t19 t20 t21 t22 t23 t24 t25 t26 t27 t28 t29 t30 t31 t32 t33 t34 t35 t36 t37 t38 t39 t40 t41 t42 t43 t44 t45 t46 t47 t48 t49 t50 t51 t52 t53 t54 t55 t56 t57 t58 t59 t60 t61 t62 t63 t64 t65 t66 t67 t68 t69 t70 t71 t72 t73 t74 t75 t76 t77 t78 t79 t80 t81 t82 t83 t84 t85 t86 t87 t88 t89 t90 t91 t92 : Value) (hi : i < 44) (hkey : key.length = 16) (hA : Lie wi wi.heap.size A (bvs key)) (hc : 16 ≤ c ∧ c ≤ 9223372036854775807)
    (hBox : Ints wi wi.heap.size Ab cb boxN 256) (hW : ∀ j, j < i → RowAt wi Aw i cw (bf key) j)
    (hexit : ∀ (v : Value) (w' : World) (u9 u10 u11 u16 u17 u18 u19 u20 u21 u22 u23 u24 u25 u26 u27 u28 u29 u30 u31 u32 u33 u34 u35 u36 u37 u38 u39 u40 u41 u42 u43 u44 u45 u46 u47 u48 u49 u50 u51 u52 u53 u54 u55 u56 u57 u58 u59 u60 u61 u62 u63 u64 u65 u66 u67 u68 u69 u70 u71 u72 u73 u74 u75 u76 u77 u78 u79 u80 u81 u82 u83 u84 u85 u86 u87 : Value), w'.ownsRow wi.heap.size 3 1 v 4 (iR (dwW (bf key) i) 4) → Below wi.heap.size wi w' → Q (.exit 2) ⟨((.slice A 16 c) :: (.slice Ab 256 cb) :: t2 :: t3 :: t4 :: (.slice Aw i cw) :: (.int .i64 (i : Int)) :: v :: (.int .i64 4) :: u9 :: u10 :: u11 :: t12 :: t13 :: t14 :: t15 :: u16 :: u17 :: u18 :: u19 :: u20 :: u21 :: u22 :: u23 :: u24 :: u25 :: u26 :: u27 :: u28 :: u29 :: u30 :: u31 :: u32 :: u33 :: u34 :: u35 :: u36 :: u37 :: u38 :: u39 :: u40 :: u41 :: u42 :: u43 :: u44 :: u45 :: u46 :: u47 :: u48 :: u49 :: u50 :: u51 :: u52 :: u53 :: u54 :: u55 :: u56 :: u57 :: u58 :: u59 :: u60 :: u61 :: u62 :: u63 :: u64 :: u65 :: u66 :: u67 :: u68 :: u69 :: u70 :: u71 :: u72 :: u73 :: u74 :: u75 :: u76 :: u77 :: u78 :: u79 :: u80 :: u81 :: u82 :: u83 :: u84 :: u85 :: u86 :: u87 :: t88 :: t89 :: t90 :: t91 :: t92 :: []).toArray, []⟩ w') :
    Code.wp Try.prog (Code.loop (loopN Try.f38 1)) Q ⟨((.slice A 16 c) :: (.slice Ab 256 cb) :: t2 :: t3 :: t4 :: (.slice Aw i cw) :: (.int .i64 (i : Int)) :: (.slice none 0 0) :: (.int .i64 0) :: t9 :: t10 :: t11 :: t12 :: t13 :: t14 :: t15 :: t16 :: t17 :: t18 :: t19 :: t20 :: t21 :: t22 :: t23 :: t24 :: t25 :: t26 :: t27 :: t28 :: t29 :: t30 :: t31 :: t32 :: t33 :: t34 :: t35 :: t36 :: t37 :: t38 :: t39 :: t40 :: t41 :: t42 :: t43 :: t44 :: t45 :: t46 :: t47 :: t48 :: t49 :: t50 :: t51 :: t52 :: t53 :: t54 :: t55 :: t56 :: t57 :: t58 :: t59 :: t60 :: t61 :: t62 :: t63 :: t64 :: t65 :: t66 :: t67 :: t68 :: t69 :: t70 :: t71 :: t72 :: t73 :: t74 :: t75 :: t76 :: t77 :: t78 :: t79 :: t80 :: t81 :: t82 :: t83 :: t84 :: t85 :: t86 :: t87 :: t88 :: t89 :: t90 :: t91 :: t92 :: []).toArray, []⟩ wi := by
  conv => arg 2; arg 1; whnf
  have HA := hid hA; have HBX := hid hBox; have HW := hid hW; have HKEY := hid hkey
  clear hA hBox hW hkey
  go_loopg [7, 8] 4 (fun g v kk wr => ∃ k : Nat, k + g = 4 ∧ kk = .int .i64 (k : Int) ∧ wr.ownsRow wi.heap.size 3 1 v k (iR (dwW (bf key) i) k) ∧ Below wi.heap.size wi wr)
  case atStart => exact ⟨0, rfl, rfl, ⟨rfl, .inl ⟨rfl, rfl⟩⟩, Below.refl _ _⟩
  case round =>
    obtain ⟨k, hk, rfl, ho, hb⟩ := hrel
    have HK := hid hk; have HO := hid ho; have HB := hid hb
    have hk4 : k ≤ 4 := by omega
    have hsz := hb.size
    clear hk ho hb
    by_cases hlt : k < 4
    · have hx : (k : Int) < 4 := by omega
      have hk0 : (0 : Int) ≤ (k : Int) := by omega
      have hwk : IntKind.i64.wrap ((k : Int) + 1) = ((k + 1 : Nat) : Int) := (IntWalk.i64_in _ (by omega)).trans (by omega)
      clear hexit
      by_cases hi4 : i < 4
      · have hi4i : (i : Int) < 4 := by omega
        obtain ⟨m, hm⟩ : ∃ m, m = 4 * i := ⟨_, rfl⟩
        obtain ⟨q, hq⟩ : ∃ q, q = m + k := ⟨_, rfl⟩
        have hmw : IntKind.i64.wrap (4 * (i : Int)) = (m : Int) := (IntWalk.i64_in _ (by omega)).trans (by omega)
        have hqw : IntKind.i64.wrap ((m : Int) + (k : Int)) = (q : Int) := (IntWalk.i64_in _ (by omega)).trans (by omega)
        have hq16 : (q : Int) < 16 := by omega
        have hq0 : (0 : Int) ≤ (q : Int) := by omega
        obtain ⟨gb, ob, rfl, hgb, hcell⟩ := (HA.out.below HB.out).byte (k := q) (by rw [HKEY.out]; omega)
        have hyb := bf_at key q (by rw [HKEY.out]; omega)
        obtain ⟨y, hy⟩ : ∃ y, y = bf key q := ⟨_, rfl⟩
        rw [← hyb, ← hy] at hcell
        have hyl : y < 256 := by rw [hy]; exact bf_lt key q
        have hyw : IntKind.i64.wrap (y : Int) = (y : Int) := IntWalk.i64_in _ (by omega)
        have HVAL : Hid (dwW (bf key) i k = y) := hid (by rw [dwW_first _ _ _ hi4, hy, hq, hm])
        have HO1 := hid (World.ownsRow.alloc HO.out (.cells #[.int .i64 (y : Int)] 3))
        clear hm hq hy hyb hyl HO
        go_wp2_with (at_builtin; refine wpList_append_lie rfl _ _ 29 rfl wi.heap.size 3 (.int .i64 0) 8 Try.underlying29 infoI1 rfl rfl HO1.out rfl rfl (Lie.new1 _ _ _) (by intro u hu; simp at hu; subst hu; rfl) ?e1 ?e2 ?e3 ?_)
        case e1 => first | (rw [List.length_singleton]; unfold maxLen; omega) | (unfold maxLen; omega)
        case e2 => first | (rw [List.length_singleton]; omega) | omega
        case e3 => first | (simp; omega) | omega
        intro v3 w3 hown3 hg3 _
        have hb3 : Below wi.heap.size wi w3 := (HB.out.alloc hsz _).grown hg3 (by simp; omega) (fun q h => own_lt HO1.out q h)
        have HO3 : Hid (w3.ownsRow wi.heap.size 3 1 v3 (k + 1) (iR (dwW (bf key) i) (k + 1))) := hid (by rw [iR_succ, HVAL.out]; exact hown3)
        have HB3 := hid hb3
        clear hown3 hg3 hb3 HO1 HB hsz
        go_wp2
        have hk := HK.out
        go_roundg (4 - k - 1)
        case measure => omega
        case rel => exact ⟨k + 1, by omega, rfl, HO3.out, HB3.out⟩
      · have hi4i : ¬ (i : Int) < 4 := by omega
        obtain ⟨j1, hj1⟩ : ∃ j, j = i - 1 := ⟨_, rfl⟩
        obtain ⟨j4, hj4⟩ : ∃ j, j = i - 4 := ⟨_, rfl⟩
        have hw1 : IntKind.i64.wrap ((i : Int) - 1) = (j1 : Int) := (IntWalk.i64_in _ (by omega)).trans (by omega)
        have hw4 : IntKind.i64.wrap ((i : Int) - 4) = (j4 : Int) := (IntWalk.i64_in _ (by omega)).trans (by omega)
        have hj1i : (j1 : Int) < (i : Int) := by omega
        have hj10 : (0 : Int) ≤ (j1 : Int) := by omega
        have hj4i : (j4 : Int) < (i : Int) := by omega
        have hj40 : (0 : Int) ≤ (j4 : Int) := by omega
        obtain ⟨b, A1, c1, rfl, hcw, hcw2, hb, hc1, ⟨g1, rfl, hg1, hd1⟩, hcap1⟩ := HW.out j1 (by omega)
        obtain ⟨b4, A4, c4, hb4, _, _, _, hc4, ⟨g4, rfl, hg4, hd4⟩, hcap4⟩ := HW.out j4 (by omega)
        simp only [Option.some.injEq, Addr.mk.injEq] at hb4
        obtain ⟨rfl, _, _⟩ := hb4
        have hc1r := (HB.out.cell (p := ⟨b, j1, none⟩) hb).trans hc1
        have hc4r := (HB.out.cell (p := ⟨b, j4, none⟩) hb).trans hc4
        have hd1r := (HB.out.cell (p := ⟨g1, k, none⟩) hg1).trans (hd1 k hlt)
        have hd4r := (HB.out.cell (p := ⟨g4, k, none⟩) hg4).trans (hd4 k hlt)
        obtain ⟨x1, hx1⟩ : ∃ x, x = dwW (bf key) j1 k := ⟨_, rfl⟩
        obtain ⟨x4, hx4⟩ : ∃ x, x = dwW (bf key) j4 k := ⟨_, rfl⟩
        have hx4l : x4 < 256 := by rw [hx4]; exact dwW_lt (bf_lt key) _ _
        have hx1l : x1 < 256 := by rw [hx1]; exact dwW_lt (bf_lt key) _ _
        rw [← hx1] at hd1r
        rw [← hx4] at hd4r
        obtain ⟨r, hr⟩ : ∃ r, r = i % 4 := ⟨_, rfl⟩
        obtain ⟨hr1, hr2, hrw⟩ := rem4 hr (by omega)
        by_cases hr0 : r = 0
        · have hr0i : ((r : Int) == 0) = true := by rw [hr0]; rfl
          have hr0j : (r : Int) = 0 := by omega
          obtain ⟨k1, hk1⟩ : ∃ x, x = k + 1 := ⟨_, rfl⟩
          obtain ⟨k2, hk2⟩ : ∃ x, x = k1 % 4 := ⟨_, rfl⟩
          have hwk1 : IntKind.i64.wrap ((k : Int) + 1) = (k1 : Int) := hwk.trans (by rw [hk1])
          obtain ⟨hs1, hs2, hsw⟩ := rem4 hk2 (by omega)
          have hk24 : (k2 : Int) < 4 := by omega
          have hk20 : (0 : Int) ≤ (k2 : Int) := by omega
          have hd2r := (HB.out.cell (p := ⟨g1, k2, none⟩) hg1).trans (hd1 k2 (by omega))
          obtain ⟨x2, hx2⟩ : ∃ x, x = dwW (bf key) j1 k2 := ⟨_, rfl⟩
          rw [← hx2] at hd2r
          have hx2l : x2 < 256 := by rw [hx2]; exact dwW_lt (bf_lt key) _ _
          have hx2i : (x2 : Int) < 256 := by omega
          have hx20 : (0 : Int) ≤ (x2 : Int) := by omega
          obtain ⟨⟨gB, rfl, hgB, hcB⟩, hcapB⟩ := HBX.out
          have hbx := (HB.out.cell (p := ⟨gB, x2, none⟩) hgB).trans (hcB x2 hx2l)
          obtain ⟨y, hy⟩ : ∃ y, y = boxN x2 := ⟨_, rfl⟩
          rw [← hy] at hbx
          have hyl : y < 256 := by rw [hy]; exact boxN_lt x2
          have hval := dwW_turn (bf_lt key) i k (by omega) hlt (by omega)
          rw [← hj4, ← hx4, ← hj1, ← hk1, ← hk2, ← hx2, ← hy] at hval
          clear hwk
          by_cases hk0e : k = 0
          · subst hk0e
            obtain rfl : k1 = 1 := by omega
            obtain rfl : k2 = 1 := by omega
            have hwk : IntKind.i64.wrap (((0 : Nat) : Int) + 1) = ((0 + 1 : Nat) : Int) := rfl
            obtain ⟨m, hm⟩ : ∃ m, m = i / 4 := ⟨_, rfl⟩
            obtain ⟨p, hp⟩ : ∃ p, p = dbk 1 (m - 1) := ⟨_, rfl⟩
            have hpl : p < 256 := by rw [hp]; exact dbk_lt (by decide) _
            rw [if_pos rfl, ← hm, ← hp] at hval
            have hxor := i64_xor_nat' y p (by omega) (by omega)
            obtain ⟨s, hs⟩ : ∃ s, s = y ^^^ p := ⟨_, rfl⟩
            rw [← hs] at hxor hval
            have hsl : s < 256 := by rw [hs]; exact xor_b hyl hpl
            have hxor2 := i64_xor_nat' x4 s (by omega) (by omega)
            obtain ⟨z, hz⟩ : ∃ z, z = x4 ^^^ s := ⟨_, rfl⟩
            rw [← hz] at hxor2 hval
            have HVAL := hid hval
            have HO1 := hid (World.ownsRow.alloc HO.out (.cells #[.int .i64 (z : Int)] 3))
            have HM := hid hm; have HP := hid hp; have HI := hid hi
            have HM1 : Hid (1 ≤ m) := hid (by omega)
            clear hr hk1 hk2 hx1 hx2 hx4 hx4l hx1l hx2l hy hyl hs hsl hpl hz hval hp hm hj1 hj4 hc1 hc4 hd1 hd4 hcB HO hb hg1 hg4 hgB hcap1 hcap4 hi
            have HD : Hid _ := hid hxor
            go_wp2
            refine pw11_loop i m _ _ _ _ _ _ _ _ _ _ _ _ _ _ _ _ _ _ _ _ _ _ _ _ _ _ _ _ _ _ _ _ _ _ _ _ _ _ _ _ _ _ _ _ _ _ _ _ _ _ _ _ _ _ _ _ _ _ _ _ _ _ _ _ _ _ _ _ _ _ _ _ _ _ _ _ _ _ _ _ _ _ _ _ _ _ _ _ _ _ _ HI.out HM.out HM1.out ?_
            intro u64 u65 u66 u67 u68 u69 u70 u71
            rw [← HP.out]
            go_wp2_with (at_builtin; refine wpList_append_lie rfl _ _ 29 rfl wi.heap.size 3 (.int .i64 0) 8 Try.underlying29 infoI1 rfl rfl HO1.out rfl rfl (Lie.new1 _ _ _) (by intro u hu; simp at hu; subst hu; rfl) ?e1 ?e2 ?e3 ?_)
            case e1 => first | (rw [List.length_singleton]; unfold maxLen; omega) | (unfold maxLen; omega)
            case e2 => first | (rw [List.length_singleton]; omega) | omega
            case e3 => first | (simp; omega) | omega
            intro v3 w3 hown3 hg3 _
            have hb3 : Below wi.heap.size wi w3 := (HB.out.alloc hsz _).grown hg3 (by simp; omega) (fun q h => own_lt HO1.out q h)
            have HO3 : Hid (w3.ownsRow wi.heap.size 3 1 v3 (0 + 1) (iR (dwW (bf key) i) (0 + 1))) := hid (by rw [iR_succ, HVAL.out]; exact hown3)
            have HB3 := hid hb3
            clear hown3 hg3 hb3 HO1 HB hsz
            go_wp2
            have hk := HK.out
            go_roundg (4 - 0 - 1)
            case measure => omega
            case rel => exact ⟨0 + 1, by omega, rfl, HO3.out, HB3.out⟩
          · have hke : ((k : Int) == 0) = false := by rw [beq_eq_false_iff_ne]; omega
            have hke2 : ¬ (k : Int) = 0 := by omega
            rw [if_neg hk0e, Nat.xor_zero] at hval
            have hxor2 := i64_xor_nat' x4 y (by omega) (by omega)
            obtain ⟨z, hz⟩ : ∃ z, z = x4 ^^^ y := ⟨_, rfl⟩
            rw [← hz] at hxor2 hval
            have HVAL := hid hval
            have HO1 := hid (World.ownsRow.alloc HO.out (.cells #[.int .i64 (z : Int)] 3))
            have HK1 := hid hk1
            clear hr hk2 hx1 hx2 hx4 hx4l hx1l hx2l hy hyl hz hval hj1 hj4 hc1 hc4 hd1 hd4 hcB HO hb hg1 hg4 hgB hcap1 hcap4 hi hk1
            go_wp2_with (at_builtin; refine wpList_append_lie rfl _ _ 29 rfl wi.heap.size 3 (.int .i64 0) 8 Try.underlying29 infoI1 rfl rfl HO1.out rfl rfl (Lie.new1 _ _ _) (by intro u hu; simp at hu; subst hu; rfl) ?e1 ?e2 ?e3 ?_)
            case e1 => first | (rw [List.length_singleton]; unfold maxLen; omega) | (unfold maxLen; omega)
            case e2 => first | (rw [List.length_singleton]; omega) | omega
            case e3 => first | (simp; omega) | omega
            intro v3 w3 hown3 hg3 _
            have hb3 : Below wi.heap.size wi w3 := (HB.out.alloc hsz _).grown hg3 (by simp; omega) (fun q h => own_lt HO1.out q h)
            have HO3 : Hid (w3.ownsRow wi.heap.size 3 1 v3 (k + 1) (iR (dwW (bf key) i) (k + 1))) := hid (by rw [iR_succ, HVAL.out]; exact hown3)
            have HB3 := hid hb3
            clear hown3 hg3 hb3 HO1 HB hsz
            go_wp2
            have hk := HK.out
            go_roundg (4 - k - 1)
            case measure => omega
            case rel => exact ⟨k + 1, by omega, by rw [HK1.out], HO3.out, HB3.out⟩
        · have hr0i : ((r : Int) == 0) = false := by rw [beq_eq_false_iff_ne]; omega
          have hr0j : ¬ (r : Int) = 0 := by omega
          have hval := dwW_plain (bf key) i k (by omega) hlt (by omega)
          rw [← hj4, ← hj1, ← hx4, ← hx1] at hval
          have hxor2 := i64_xor_nat' x4 x1 (by omega) (by omega)
          obtain ⟨z, hz⟩ : ∃ z, z = x4 ^^^ x1 := ⟨_, rfl⟩
          rw [← hz] at hxor2 hval
          have HVAL := hid hval
          have HO1 := hid (World.ownsRow.alloc HO.out (.cells #[.int .i64 (z : Int)] 3))
          clear hr hx1 hx4 hx4l hx1l hz hval hj1 hj4 hc1 hc4 hd1 hd4 HO hb hg1 hg4 hcap1 hcap4 hi
          go_wp2_with (at_builtin; refine wpList_append_lie rfl _ _ 29 rfl wi.heap.size 3 (.int .i64 0) 8 Try.underlying29 infoI1 rfl rfl HO1.out rfl rfl (Lie.new1 _ _ _) (by intro u hu; simp at hu; subst hu; rfl) ?e1 ?e2 ?e3 ?_)
          case e1 => first | (rw [List.length_singleton]; unfold maxLen; omega) | (unfold maxLen; omega)
          case e2 => first | (rw [List.length_singleton]; omega) | omega
          case e3 => first | (simp; omega) | omega
          intro v3 w3 hown3 hg3 _
          have hb3 : Below wi.heap.size wi w3 := (HB.out.alloc hsz _).grown hg3 (by simp; omega) (fun q h => own_lt HO1.out q h)
          have HO3 : Hid (w3.ownsRow wi.heap.size 3 1 v3 (k + 1) (iR (dwW (bf key) i) (k + 1))) := hid (by rw [iR_succ, HVAL.out]; exact hown3)
          have HB3 := hid hb3
          clear hown3 hg3 hb3 HO1 HB hsz
          go_wp2
          have hk := HK.out
          go_roundg (4 - k - 1)
          case measure => omega
          case rel => exact ⟨k + 1, by omega, rfl, HO3.out, HB3.out⟩
    · have hke : k = 4 := by omega
      subst hke
      have hx : ¬ ((4 : Nat) : Int) < 4 := by omega
      clear hx
      go_wp2
      exact hexit _ _ _ _ _ _ _ _ _ _ _ _ _ _ _ _ _ _ _ _ _ _ _ _ _ _ _ _ _ _ _ _ _ _ _ _ _ _ _ _ _ _ _ _ _ _ _ _ _ _ _ _ _ _ _ _ _ _ _ _ _ _ _ _ _ _ _ _ _ _ _ _ _ _ _ _ _ HO.out HB.out
end Go.Proofs.Ytojlmlmjmlbjmaa
end
section
namespace Go.Proofs.Ytojlmlmjmlbjmaa
open Go.RowKit
set_option linter.unusedVariables false
set_option linter.unusedSimpArgs false
theorem infoSI : (Try.prog.info? 29).map (fun i => (i.zero, i.size, i.bytes)) = some (some (.slice none 0 0), 1, 24) := by kernel_rfl
theorem own_neE {w : World} {B B' : Nat} {e e' : TypeId} {s s' n n' : Nat} {v v' : Value} {xs ys : List Value} (h : w.ownsRow B e s v n xs) (h' : w.ownsRow B' e' s' v' n' ys) (hne : e ≠ e') : v.ownBlock = none ∨ v.ownBlock ≠ v'.ownBlock := by
  rcases h.2 with ⟨rfl, _⟩ | ⟨g, cap, cur, rfl, _, hg, _⟩
  · exact .inl rfl
  rcases h'.2 with ⟨rfl, _⟩ | ⟨g', cap', cur', rfl, _, hg', _⟩
  · exact .inr (by simp [Value.ownBlock])
  · refine .inr fun e0 => ?_
    have : g = g' := by simpa [Value.ownBlock] using e0
    subst this
    rw [hg] at hg'
    injection hg' with hg'
    injection hg' with _ ht
    exact hne ht
theorem own_less {w : World} {B B' n : Nat} {e : TypeId} {v : Value} {xs : List Value} (h : w.ownsRow B' e 1 v n xs) (hB : B ≤ B') : w.ownsRow B e 1 v n xs := by
  obtain ⟨hl, h⟩ := h
  rcases h with h | ⟨g, cap, cur, hv, hb, rest⟩
  · exact ⟨hl, .inl h⟩
  · exact ⟨hl, .inr ⟨g, cap, cur, hv, by omega, rest⟩⟩
/-- Rows of four whole numbers, as a row. -/
def WRows (w : World) (B : Nat) (K : Nat → Nat) (v : Value) (i : Nat) : Prop :=
  ∃ vs : List Value, vs.length = i ∧ w.ownsRow B 29 1 v i vs ∧ ∀ j x, vs[j]? = some x → w.ownsRow B 3 1 x 4 (iR (dwW K j) 4)
theorem WRows.nil (w : World) (B : Nat) (K : Nat → Nat) : WRows w B K (.slice none 0 0) 0 := ⟨[], rfl, World.ownsRow_nil _ _ _ _, fun j x h => by simp at h⟩
theorem WRows.kept {w w' : World} {B : Nat} {K : Nat → Nat} {v : Value} {i : Nat} (h : WRows w B K v i) (hb : Below w.heap.size w w') : WRows w' B K v i := by
  obtain ⟨vs, hl, ho, he⟩ := h
  exact ⟨vs, hl, own_grow ho hb, fun j x hx => own_grow (he j x hx) hb⟩
theorem WRows.at_ {w : World} {B : Nat} {K : Nat → Nat} {A : Option Addr} {c i : Nat} (h : WRows w B K (.slice A i c) i) (j : Nat) (hj : j < i) : RowAt w A i c K j := by
  obtain ⟨vs, hl, ho, he⟩ := h
  obtain ⟨g, cap, cur, hv, _, hg, h1, h2, _, _⟩ := ho.2.resolve_left (fun h => by have := h.2; omega)
  simp only [Value.slice.injEq] at hv
  obtain ⟨hA, _, hc⟩ := hv
  subst hA; subst hc
  have hx : vs[j]? = some vs[j] := List.getElem?_eq_getElem (by omega)
  obtain ⟨A', c', hv', hI⟩ := ints_own (he j _ hx) (by omega)
  refine ⟨g, A', c', rfl, h1, by simpa [maxLen] using h2, block_lt hg, ?_, hI⟩
  have := ho.cells (g := g) rfl j _ hx
  rw [← hv']
  simpa [Addr.add_lit] using this
theorem WRows.snoc {w2 w3 : World} {B : Nat} {K : Nat → Nat} {v v2 x : Value} {i : Nat} {vs : List Value} {o : Obj} (hl : vs.length = i) (ho : w2.ownsRow B 29 1 v i vs) (he : ∀ j y, vs[j]? = some y → w2.ownsRow B 3 1 y 4 (iR (dwW K j) 4)) (hx : w2.ownsRow B 3 1 x 4 (iR (dwW K i) 4))
    (hn : w3.ownsRow B 29 1 v2 (i + 1) (vs ++ [x])) (hg : (w2.alloc o).grownBy w3 v.ownBlock) : WRows w3 B K v2 (i + 1) := by
  refine ⟨vs ++ [x], by simp [hl], hn, fun j y hy => ?_⟩
  have hk : w2.ownsRow B 3 1 y 4 (iR (dwW K j) 4) := by
    by_cases hj : j < vs.length
    · rw [List.getElem?_append_left hj] at hy; exact he j y hy
    · rw [List.getElem?_append_right (by omega)] at hy
      have : j - vs.length = 0 := by
        have := (List.getElem?_eq_some_iff.1 hy).1
        simp at this; omega
      rw [this] at hy
      have hji : j = i := by omega
      subst hji
      simp at hy
      subst hy
      exact hx
  exact World.ownsRow.kept (World.ownsRow.alloc hk o) hg (own_neE hk ho (by decide))
set_option maxRecDepth 100000 in
set_option maxHeartbeats 4000000 in
theorem Words11_any (A Ab : Option Addr) (n nb c cb : Nat) (key : List UInt8) (w : World) (hA : Sq w w.heap.size A c (bvs key)) (hkey : key.length = 16) (hn : n = 16) (hnb : nb = 256) (hBox : Ints w w.heap.size Ab cb boxN 256) :
    Calls Try.prog 38 #[.slice A n c, .slice Ab nb cb] w fun e w' => ∃ Aw cw, e = .returned (.slice Aw 44 cw) ∧ (∀ j, j < 44 → RowAt w' Aw 44 cw (bf key) j) ∧ Below w.heap.size w w' := by
  subst hn; subst hnb
  have hcap := hA.cap
  rw [bvs_length, hkey] at hcap
  have HA := hid hA; have HBX := hid hBox; have HKEY := hid hkey; have HCAP := hid hcap
  clear hA hBox hkey hcap
  go_enter Try.func38, Try.ntmps38
  go_wp2
  go_loopg [5, 6] 44 (fun g v ii wr => ∃ i : Nat, i + g = 44 ∧ ii = .int .i64 (i : Int) ∧ WRows wr w.heap.size (bf key) v i ∧ Below w.heap.size w wr)
  case atStart => exact ⟨0, rfl, rfl, WRows.nil _ _ _, Below.refl _ _⟩
  case round =>
    obtain ⟨i, hi, rfl, hw, hb⟩ := hrel
    have HI := hid hi; have HW := hid hw; have HB := hid hb
    have hi44 : i ≤ 44 := by omega
    obtain ⟨Aw, cw, rfl⟩ : ∃ Aw cw, u5 = .slice Aw i cw := by
      obtain ⟨vs, hl, ho, _⟩ := hw
      obtain ⟨A', c', hv, _⟩ := own_sl ho
      exact ⟨A', c', hv⟩
    clear hi hw hb
    by_cases hlt : i < 44
    · have hx : (i : Int) < 44 := by omega
      have hwi : IntKind.i64.wrap ((i : Int) + 1) = ((i + 1 : Nat) : Int) := (IntWalk.i64_in _ (by omega)).trans (by omega)
      go_wp2
      refine word11_loop i A Ab Aw c cb cw key wr _ _ _ _ _ _ _ _ _ _ _ _ _ _ _ _ _ _ _ _ _ _ _ _ _ _ _ _ _ _ _ _ _ _ _ _ _ _ _ _ _ _ _ _ _ _ _ _ _ _ _ _ _ _ _ _ _ _ _ _ _ _ _ _ _ _ _ _ _ _ _ _ _ _ _ _ _ _ _ _ _ _ _ _ _ _ _ hlt HKEY.out (((HA.out.below HB.out).more HB.out.size).lie) HCAP.out ((HBX.out.below HB.out).more HB.out.size) (fun j hj => HW.out.at_ j hj) ?_
      intro v w2 u9 u10 u11 u16 u17 u18 u19 u20 u21 u22 u23 u24 u25 u26 u27 u28 u29 u30 u31 u32 u33 u34 u35 u36 u37 u38 u39 u40 u41 u42 u43 u44 u45 u46 u47 u48 u49 u50 u51 u52 u53 u54 u55 u56 u57 u58 u59 u60 u61 u62 u63 u64 u65 u66 u67 u68 u69 u70 u71 u72 u73 u74 u75 u76 u77 u78 u79 u80 u81 u82 u83 u84 u85 u86 u87 hown hb2
      obtain ⟨Av, cv, rfl, _⟩ := ints_own hown (by omega)
      have HB2 : Hid (Below w.heap.size w w2) := hid (HB.out.trans (hb2.mono HB.out.size))
      obtain ⟨vs, hl, ho, he⟩ := HW.out.kept hb2
      have HL := hid hl; have HO := hid ho; have HE := hid he
      have HX : Hid (w2.ownsRow w.heap.size 3 1 (.slice Av 4 cv) 4 (iR (dwW (bf key) i) 4)) := hid (own_less hown HB.out.size)
      have HO1 := hid (World.ownsRow.alloc ho (.cells #[.slice Av 4 cv] 29))
      have hsz := HB2.out.size
      clear hl ho he hown hb2 HW HB
      go_wp2_with (at_builtin; refine wpList_append_lie rfl _ _ 58 rfl w.heap.size 29 (.slice none 0 0) 24 Try.underlying58 infoSI rfl rfl HO1.out rfl rfl (Lie.new1 _ _ _) (by intro u hu; simp at hu; subst hu; rfl) ?e1 ?e2 ?e3 ?_)
      case e1 => first | (rw [List.length_singleton]; unfold maxLen; omega) | (unfold maxLen; omega)
      case e2 => first | (rw [List.length_singleton]; omega) | omega
      case e3 => first | (simp; omega) | omega
      intro v3 w3 hown3 hg3 _
      have hb3 : Below w.heap.size w w3 := (HB2.out.alloc hsz _).grown hg3 (by simp; omega) (fun q h => own_lt HO1.out q h)
      have HW3 : Hid (WRows w3 w.heap.size (bf key) v3 (i + 1)) := hid (WRows.snoc HL.out HO.out HE.out HX.out hown3 hg3)
      have HB3 := hid hb3
      clear hown3 hg3 hb3 HO1 HB2 hsz HL HO HE HX
      go_wp2
      have hi := HI.out
      go_roundg (44 - i - 1)
      case measure => omega
      case rel => exact ⟨i + 1, by omega, rfl, HW3.out, HB3.out⟩
    · have hie : i = 44 := by omega
      subst hie
      have hx : ¬ ((44 : Nat) : Int) < 44 := by omega
      clear hx
      go_wp2
      go_ret
      exact ⟨Aw, cw, rfl, fun j hj => HW.out.at_ j hj, HB.out⟩
end Go.Proofs.Ytojlmlmjmlbjmaa
end
section
namespace Go.Proofs.Ytojlmlmjmlbjmaa
open Go.RowKit
set_option linter.unusedVariables false
set_option linter.unusedSimpArgs false
/-- Sixteen whole numbers. -/
def bI (f : Nat → Nat) : Array Value := (iR f 16).toArray
theorem bI_get (f : Nat → Nat) (k : Nat) (h : k < 16) : (bI f)[k]? = some (.int .i64 ((f k : Nat) : Int)) := by
  unfold bI
  rw [List.getElem?_toArray, iR_at _ _ _ h]
theorem bI_set (f : Nat → Nat) (k v : Nat) (h : k < 16) : (bI f).setIfInBounds k (.int .i64 (v : Int)) = bI fun q => if q = k then v else f q := by
  unfold bI
  rw [List.setIfInBounds_toArray]
  congr 1
  apply List.ext_getElem
  · simp [iR]
  · intro i h1 h2
    rw [List.getElem_set]
    simp only [iR, List.getElem_map, List.getElem_range]
    by_cases e : k = i
    · rw [if_pos e, if_pos e.symm]
    · rw [if_neg e, if_neg (Ne.symm e)]
theorem bI_congr {f h : Nat → Nat} (e : ∀ i, i < 16 → f i = h i) : bI f = bI h := by unfold bI; rw [iR_congr 16 e]
theorem mkI16 (W : World) : (Instr.makeSlice 29 (.int .i64 16) (.int .i64 16)).run Try.prog W = .ok (.slice (some ⟨W.heap.size, 0, none⟩) 16 16) (W.alloc (.cells (bI fun _ => 0) 3)) := by
  have h := run_make_row' (P := Try.prog) 29 3 (.int .i64 0) 8 Try.underlying29 infoI1 rfl .i64 .i64 16 (by omega) (by omega) W
  have hz : madeCells #[Value.int .i64 0] 16 = bI fun _ => 0 := by
    have e := toList_madeCells_one (Value.int .i64 0) 16
    refine Array.toList_inj.1 ?_
    rw [e]
    rfl
  rw [hz] at h
  exact h
theorem i64_s {a b z : Nat} (h : z = a + b) (hz : z < 1000) : IntKind.i64.wrap ((a : Int) + (b : Int)) = (z : Int) := (IntWalk.i64_in _ (by omega)).trans (by omega)
theorem i64_4 {a z : Nat} (h : z = 4 * a) (hz : z < 1000) : IntKind.i64.wrap (4 * (a : Int)) = (z : Int) := (IntWalk.i64_in _ (by omega)).trans (by omega)
/-- The product by 2 and by 3. -/
theorem mix_doc {a b : Nat} (ha : a < 256) (hb : b < 256) : tmN 2 a ^^^ tmN 3 b = dblN (a ^^^ b) ^^^ b := by
  rw [dblN_tm _ (xor_b ha hb), tm_comm (xor_b ha hb) (by decide), tm_xor_right, show (3 : Nat) = 2 ^^^ 1 by decide, tm_xor_left 2 1 b, tm_one_left hb, Nat.xor_assoc]
theorem mixS_at {T : Nat → Nat} (hT : ∀ i, T i < 256) (k cc : Nat) (hk : k < 4) : tmN 2 (T (k + 4 * cc)) ^^^ tmN 3 (T ((k + 1) % 4 + 4 * cc)) ^^^ T ((k + 2) % 4 + 4 * cc) ^^^ T ((k + 3) % 4 + 4 * cc) = mixS T (k + 4 * cc) := by
  rw [mix_doc (hT _) (hT _)]
  unfold mixS
  have e1 : (k + 4 * cc) / 4 = cc := by omega
  have e2 : (k + 4 * cc) % 4 = k := by omega
  rw [e1, e2]
  unfold mixN
  show _ = dblN (T (4 * cc + k) ^^^ T (4 * cc + (k + 1) % 4)) ^^^ T (4 * cc + (k + 1) % 4) ^^^ T (4 * cc + (k + 2) % 4) ^^^ T (4 * cc + (k + 3) % 4)
  have f0 : 4 * cc + k = k + 4 * cc := Nat.add_comm _ _
  have f1 : 4 * cc + (k + 1) % 4 = (k + 1) % 4 + 4 * cc := Nat.add_comm _ _
  have f2 : 4 * cc + (k + 2) % 4 = (k + 2) % 4 + 4 * cc := Nat.add_comm _ _
  have f3 : 4 * cc + (k + 3) % 4 = (k + 3) % 4 + 4 * cc := Nat.add_comm _ _
  rw [f0, f1, f2, f3]
theorem i64_xor_b (a b : Nat) (ha : a < 256) (hb : b < 256) : bits .xor .i64 (a : Int) (b : Int) = ((a ^^^ b : Nat) : Int) := i64_xor_nat' a b (by omega) (by omega)
theorem mix_q {k cc j r s m q : Nat} (hk : k < 4) (hc : cc < 4) (hm : m = 4 * cc) (hr : r = k + j) (hj : j ≤ 3) (hs : s = r % 4) (hq : q = s + m) :
    IntKind.i64.wrap ((k : Int) + (j : Int)) = (r : Int) ∧ (r : Int).tmod 4 = (s : Int) ∧ (r : Int) % 4 = (s : Int) ∧ IntKind.i64.wrap (s : Int) = (s : Int) ∧ IntKind.i64.wrap ((s : Int) + (m : Int)) = (q : Int) ∧ (q : Int) < 16 ∧ (0 : Int) ≤ (q : Int) ∧ q < 16 := by
  obtain ⟨a, b, c⟩ := rem4 hs (by omega)
  exact ⟨i64_s hr (by omega), a, b, c, i64_s hq (by omega), by omega, by omega, by omega⟩
theorem still_drew {B : Nat} {a w : World} (h : Below B a w) : Below B a w.drew := ⟨h.os, h.tape, h.output, h.size, h.block⟩
end Go.Proofs.Ytojlmlmjmlbjmaa
end
section
namespace Go.Proofs.Ytojlmlmjmlbjmaa
open Go.RowKit
set_option linter.unusedVariables false
set_option linter.unusedSimpArgs false
/-- The block as a polynomial. -/
def polN (f : Nat → Nat) : Nat → Nat
  | 0 => 0
  | n + 1 => polN f n ^^^ (if gbit f n = 1 then 2 ^ n else 0)
def pol (f : Nat → Nat) : Nat := polN f 128
theorem polN_bit (f : Nat → Nat) : ∀ n i, (polN f n).testBit i = (decide (i < n) && decide (gbit f i = 1))
  | 0, i => by simp [polN]
  | n + 1, i => by
    show (polN f n ^^^ (if gbit f n = 1 then 2 ^ n else 0)).testBit i = _
    rw [Nat.testBit_xor, polN_bit f n i]
    by_cases h : i = n
    · subst h
      by_cases h1 : gbit f i = 1 <;> simp [h1]
    · have h2 : (if gbit f n = 1 then 2 ^ n else 0 : Nat).testBit i = false := by
        split
        · rw [Nat.testBit_two_pow]; simp; omega
        · simp
      rw [h2]
      by_cases h3 : i < n
      · rw [show decide (i < n) = true by simp [h3], show decide (i < n + 1) = true by simp; omega]; simp
      · rw [show decide (i < n) = false by simp; omega, show decide (i < n + 1) = false by simp; omega]; rfl
theorem pol_lt (f : Nat → Nat) : pol f < 2 ^ 128 := by
  apply Nat.lt_pow_two_of_testBit
  intro i hi
  unfold pol
  rw [polN_bit, show decide (i < 128) = false by simp; omega]; rfl
theorem pol_bit (f : Nat → Nat) (i : Nat) (hi : i < 128) : (pol f).testBit i = decide (gbit f i = 1) := by
  unfold pol
  rw [polN_bit, show decide (i < 128) = true by simp [hi]]; rfl
/-- A coefficient. -/
def pf (p i : Nat) : Nat := if p.testBit i then 1 else 0
theorem pf_le (p i : Nat) : pf p i ≤ 1 := by unfold pf; split <;> omega
theorem pf_flip (p m i : Nat) : pf (p ^^^ 2 ^ m) i = if i = m then 1 - pf p m else pf p i := by
  unfold pf
  rw [Nat.testBit_xor, Nat.testBit_two_pow]
  by_cases h : i = m
  · subst h
    cases p.testBit i <;> simp
  · have : decide (m = i) = false := by simp; omega
    rw [this, if_neg h]
    cases p.testBit i <;> simp
/-- n whole numbers in a row of memory. -/
def rA (f : Nat → Nat) (n : Nat) : Array Value := (iR f n).toArray
theorem rA_get (f : Nat → Nat) (n k : Nat) (h : k < n) : (rA f n)[k]? = some (.int .i64 ((f k : Nat) : Int)) := by
  unfold rA
  rw [List.getElem?_toArray, iR_at _ _ _ h]
theorem rA_congr {f h : Nat → Nat} (n : Nat) (e : ∀ i, i < n → f i = h i) : rA f n = rA h n := by unfold rA; rw [iR_congr n e]
theorem rA_set (f : Nat → Nat) (n k v : Nat) (h : k < n) : (rA f n).setIfInBounds k (.int .i64 (v : Int)) = rA (fun q => if q = k then v else f q) n := by
  unfold rA
  rw [List.setIfInBounds_toArray]
  congr 1
  apply List.ext_getElem
  · simp [iR]
  · intro i h1 h2
    rw [List.getElem_set]
    simp only [iR, List.getElem_map, List.getElem_range]
    by_cases e : k = i
    · rw [if_pos e, if_pos e.symm]
    · rw [if_neg e, if_neg (Ne.symm e)]
theorem rA_flip (p m : Nat) (hm : m < 255) : (rA (pf p) 255).setIfInBounds m (.int .i64 ((1 - pf p m : Nat) : Int)) = rA (pf (p ^^^ 2 ^ m)) 255 := by
  rw [rA_set _ _ _ _ hm]
  exact rA_congr 255 fun i _ => (pf_flip p m i).symm
theorem mkI255 (W : World) : (Instr.makeSlice 29 (.int .i64 255) (.int .i64 255)).run Try.prog W = .ok (.slice (some ⟨W.heap.size, 0, none⟩) 255 255) (W.alloc (.cells (rA (pf 0) 255) 3)) := by
  have h := run_make_row' (P := Try.prog) 29 3 (.int .i64 0) 8 Try.underlying29 infoI1 rfl .i64 .i64 255 (by omega) (by omega) W
  have hz : madeCells #[Value.int .i64 0] 255 = rA (pf 0) 255 := by
    have e := toList_madeCells_one (Value.int .i64 0) 255
    refine Array.toList_inj.1 ?_
    rw [e]
    symm
    show iR (pf 0) 255 = _
    refine List.eq_replicate_iff.2 ⟨by simp [iR], fun b hb => ?_⟩
    unfold iR at hb
    obtain ⟨i, _, rfl⟩ := List.mem_map.1 hb
    unfold pf
    rw [Nat.zero_testBit]; rfl
  rw [hz] at h
  exact h
/-- A number's bytes, from its first k coefficients. -/
def ub (p : Nat) : Nat → Nat → Nat
  | 0, _ => 0
  | k + 1, j => ub p k j + (if k / 8 = j ∧ p.testBit k = true then 2 ^ (7 - k % 8) else 0)
theorem ub_le (p j : Nat) : ∀ k, ub p k j + 2 ^ (8 - min 8 (k - 8 * j)) ≤ 256
  | 0 => by simp [ub]
  | k + 1 => by
    have h := ub_le p j k
    show ub p k j + (if k / 8 = j ∧ p.testBit k = true then 2 ^ (7 - k % 8) else 0) + 2 ^ (8 - min 8 (k + 1 - 8 * j)) ≤ 256
    by_cases hj : k / 8 = j
    · have e1 : 8 - min 8 (k - 8 * j) = (7 - k % 8) + 1 := by omega
      have e2 : 8 - min 8 (k + 1 - 8 * j) = 7 - k % 8 := by omega
      rw [e1, Nat.pow_succ] at h
      rw [e2]
      split <;> omega
    · rw [if_neg (fun hc => hj hc.1)]
      have e : 2 ^ (8 - min 8 (k + 1 - 8 * j)) ≤ 2 ^ (8 - min 8 (k - 8 * j)) := Nat.pow_le_pow_right (by omega) (by omega)
      omega
theorem ub_lt (p k j : Nat) : ub p k j < 256 := by
  have h := ub_le p j k
  have := Nat.two_pow_pos (8 - min 8 (k - 8 * j))
  omega
/-- A block's bytes. -/
def unL (p : Nat) : List UInt8 := blkL (ub p 128)
theorem unL_length (p : Nat) : (unL p).length = 16 := blkL_length _
end Go.Proofs.Ytojlmlmjmlbjmaa
end
section
namespace Go.Proofs.Ytojlmlmjmlbjmaa
open Go.RowKit
set_option linter.unusedVariables false
set_option linter.unusedSimpArgs false
set_option maxRecDepth 100000 in
set_option maxHeartbeats 4000000 in
theorem prod12_l2 {Q : Exit → Act → World → Prop} (A A' : Option Addr) (xs ys : List UInt8) (c c' g i p : Nat) (wb w : World) (t2 t3 t4 t8 t9 t10 t11 t12 t13 t14 t15 t16 t17 t18 t19 t20 t21 t22 t23 t24 t25 t26 t27 t28 t29 t30 t31 t32 t33 t34 t35 t36 t37 t38 t39 t40 t41 t42 t43 t44 t45 t46 t47 t48 t49 t50 t51 t52 t53 t54 t55 t56 t57 t58 t59 t60 t61 t62 t63 t64 t65 t66 t67 t68 t69 t70 t71 t72 t73 t74 t75 t76 t77 t78 t79 t80 t81 t82 t83 t84 t85 t86 t87 t88 t89 t90 t91 t92 t93 t94 t95 t96 t97 t98 t99 t100 t101 t102 t103 t104 t105 t106 t107 t108 t109 t110 t111 t112 t113 t114 t115 t116 t117 t118 t119 t120 t121 t122 t123 t124 t125 t126 t127 : Value) (hi : i < 128) (hx : xs.length = 16) (hy : ys.length = 16) (hA : Lie wb wb.heap.size A (bvs xs)) (hA' : Lie wb wb.heap.size A' (bvs ys)) (hg : wb.heap.size ≤ g) (h0 : w.heap[g]? = some (.cells (rA (pf (p)) 255) 3 (0, 0))) (hb : Below wb.heap.size wb w)
    (hexit : ∀ (w' : World) (u18 u19 u20 u21 u22 u23 u24 u25 u26 u27 u28 u29 u30 u31 u32 u33 u34 u35 u36 u37 u38 u39 u40 u41 u42 u43 : Value), w'.heap[g]? = some (.cells (rA (pf (p ^^^ (if (pol (bf xs)).testBit i then bitsX (pol (bf ys)) 128 <<< i else 0))) 255) 3 (0, 0)) → Below wb.heap.size wb w' → Q (.exit 2) ⟨((.slice A 16 c) :: (.slice A' 16 c') :: t2 :: t3 :: t4 :: (.slice (some ⟨g, 0, none⟩) 255 255) :: (.int .i64 (i : Int)) :: (.int .i64 128) :: t8 :: t9 :: t10 :: t11 :: t12 :: t13 :: t14 :: t15 :: t16 :: t17 :: u18 :: u19 :: u20 :: u21 :: u22 :: u23 :: u24 :: u25 :: u26 :: u27 :: u28 :: u29 :: u30 :: u31 :: u32 :: u33 :: u34 :: u35 :: u36 :: u37 :: u38 :: u39 :: u40 :: u41 :: u42 :: u43 :: t44 :: t45 :: t46 :: t47 :: t48 :: t49 :: t50 :: t51 :: t52 :: t53 :: t54 :: t55 :: t56 :: t57 :: t58 :: t59 :: t60 :: t61 :: t62 :: t63 :: t64 :: t65 :: t66 :: t67 :: t68 :: t69 :: t70 :: t71 :: t72 :: t73 :: t74 :: t75 :: t76 :: t77 :: t78 :: t79 :: t80 :: t81 :: t82 :: t83 :: t84 :: t85 :: t86 :: t87 :: t88 :: t89 :: t90 :: t91 :: t92 :: t93 :: t94 :: t95 :: t96 :: t97 :: t98 :: t99 :: t100 :: t101 :: t102 :: t103 :: t104 :: t105 :: t106 :: t107 :: t108 :: t109 :: t110 :: t111 :: t112 :: t113 :: t114 :: t115 :: t116 :: t117 :: t118 :: t119 :: t120 :: t121 :: t122 :: t123 :: t124 :: t125 :: t126 :: t127 :: []).toArray, []⟩ w') :
    Code.wp Try.prog (Code.loop (loopN Try.f16 1)) Q ⟨((.slice A 16 c) :: (.slice A' 16 c') :: t2 :: t3 :: t4 :: (.slice (some ⟨g, 0, none⟩) 255 255) :: (.int .i64 (i : Int)) :: (.int .i64 0) :: t8 :: t9 :: t10 :: t11 :: t12 :: t13 :: t14 :: t15 :: t16 :: t17 :: t18 :: t19 :: t20 :: t21 :: t22 :: t23 :: t24 :: t25 :: t26 :: t27 :: t28 :: t29 :: t30 :: t31 :: t32 :: t33 :: t34 :: t35 :: t36 :: t37 :: t38 :: t39 :: t40 :: t41 :: t42 :: t43 :: t44 :: t45 :: t46 :: t47 :: t48 :: t49 :: t50 :: t51 :: t52 :: t53 :: t54 :: t55 :: t56 :: t57 :: t58 :: t59 :: t60 :: t61 :: t62 :: t63 :: t64 :: t65 :: t66 :: t67 :: t68 :: t69 :: t70 :: t71 :: t72 :: t73 :: t74 :: t75 :: t76 :: t77 :: t78 :: t79 :: t80 :: t81 :: t82 :: t83 :: t84 :: t85 :: t86 :: t87 :: t88 :: t89 :: t90 :: t91 :: t92 :: t93 :: t94 :: t95 :: t96 :: t97 :: t98 :: t99 :: t100 :: t101 :: t102 :: t103 :: t104 :: t105 :: t106 :: t107 :: t108 :: t109 :: t110 :: t111 :: t112 :: t113 :: t114 :: t115 :: t116 :: t117 :: t118 :: t119 :: t120 :: t121 :: t122 :: t123 :: t124 :: t125 :: t126 :: t127 :: []).toArray, []⟩ w := by
  conv => arg 2; arg 1; whnf
  have HA := hid hA; have HA' := hid hA'; have HX := hid hx; have HY := hid hy; have HG := hid hg
  have h0' : w.heap[g]? = some (.cells (rA (pf (p ^^^ (if (pol (bf xs)).testBit i then bitsX (pol (bf ys)) 0 <<< i else 0))) 255) 3 (0, 0)) := h0.trans (by
    have e : (if (pol (bf xs)).testBit i then bitsX (pol (bf ys)) 0 <<< i else 0) = 0 := by split <;> simp [bitsX]
    rw [e, Nat.xor_zero])
  clear hA hA' hx hy hg h0
  go_loopg [7] 128 (fun q kk wr => ∃ k : Nat, k + q = 128 ∧ kk = .int .i64 (k : Int) ∧ wr.heap[g]? = some (.cells (rA (pf (p ^^^ (if (pol (bf xs)).testBit i then bitsX (pol (bf ys)) k <<< i else 0))) 255) 3 (0, 0)) ∧ Below wb.heap.size wb wr)
  case atStart => exact ⟨0, rfl, rfl, h0', hb⟩
  case round =>
    clear h0' hb
    obtain ⟨k, hk, rfl, h0, hb⟩ := hrel
    have HK := hid hk; have HB := hid hb
    have hk128 : k ≤ 128 := by omega
    obtain ⟨P, hP⟩ : ∃ P, P = p ^^^ (if (pol (bf xs)).testBit i then bitsX (pol (bf ys)) k <<< i else 0) := ⟨_, rfl⟩
    rw [← hP] at h0
    have H0 := hid h0; have HP := hid hP
    clear hk hb h0 hP
    by_cases hlt : k < 128
    · have hxk : (k : Int) < 128 := by omega
      clear hexit
      have hwi : IntKind.i64.wrap ((k : Int) + 1) = ((k + 1 : Nat) : Int) := (IntWalk.i64_in _ (by omega)).trans (by omega)
      have KA : Hid (∀ W, Below wb.heap.size wb W → Calls Try.prog 30 #[.slice A (16 : Nat) c, .int .i64 (i : Int)] W fun e w' => e = .returned (.int .i64 ((gbit (bf xs) i : Nat) : Int)) ∧ W = w') := hid fun W hb => bit12_any A xs 16 i c W ((HA.out.below hb).more hb.size) HX.out (by omega) (by omega)
      have KB : Hid (∀ W, Below wb.heap.size wb W → Calls Try.prog 30 #[.slice A' (16 : Nat) c', .int .i64 (k : Int)] W fun e w' => e = .returned (.int .i64 ((gbit (bf ys) k : Nat) : Int)) ∧ W = w') := hid fun W hb => bit12_any A' ys 16 k c' W ((HA'.out.below hb).more hb.size) HY.out (by omega) (by omega)
      have hba := pol_bit (bf xs) i hi
      have hbb := pol_bit (bf ys) k hlt
      have hla := gbit_le (bf xs) i
      have hlb := gbit_le (bf ys) k
      have hnext : p ^^^ (if (pol (bf xs)).testBit i then bitsX (pol (bf ys)) (k + 1) <<< i else 0) = P ^^^ (if (pol (bf xs)).testBit i = true ∧ (pol (bf ys)).testBit k = true then 2 ^ (i + k) else 0) := by
        rw [HP.out, Nat.xor_assoc]
        congr 1
        by_cases h1 : (pol (bf xs)).testBit i = true
        · rw [if_pos h1, if_pos h1]
          show (bitsX (pol (bf ys)) k ^^^ (if (pol (bf ys)).testBit k then 2 ^ k else 0)) <<< i = _
          rw [Nat.shiftLeft_xor_distrib]
          congr 1
          by_cases h2 : (pol (bf ys)).testBit k = true
          · rw [if_pos h2, if_pos ⟨h1, h2⟩, Nat.shiftLeft_eq, ← Nat.pow_add, Nat.add_comm]
          · rw [if_neg h2, if_neg (fun hc => h2 hc.2)]; simp
        · rw [if_neg h1, if_neg h1, if_neg (fun hc => h1 hc.1)]; rfl
      obtain ⟨ga, hga⟩ : ∃ x, x = gbit (bf xs) i := ⟨_, rfl⟩
      obtain ⟨gb, hgb⟩ : ∃ x, x = gbit (bf ys) k := ⟨_, rfl⟩
      rw [← hga] at KA hba hla
      rw [← hgb] at KB hbb hlb
      have HNX := hid hnext; have HBA := hid hba; have HBB := hid hbb
      clear hnext hba hbb hga hgb
      by_cases h1 : ga = 1
      · have h1i : ((ga : Int) == 1) = true := by rw [h1]; rfl
        have h1j : (ga : Int) = 1 := by omega
        by_cases h2 : gb = 1
        · have h2i : ((gb : Int) == 1) = true := by rw [h2]; rfl
          obtain ⟨m, hm⟩ : ∃ m, m = i + k := ⟨_, rfl⟩
          have hmw : IntKind.i64.wrap ((i : Int) + (k : Int)) = (m : Int) := (IntWalk.i64_in _ (by omega)).trans (by omega)
          have hm255 : (m : Int) < 255 := by omega
          have hm0 : (0 : Int) ≤ (m : Int) := by omega
          obtain ⟨v, hv⟩ : ∃ v, v = pf P m := ⟨_, rfl⟩
          have hvl : v ≤ 1 := by rw [hv]; exact pf_le _ _
          obtain ⟨z, hz⟩ : ∃ z, z = 1 - v := ⟨_, rfl⟩
          have hzw : IntKind.i64.wrap (1 - (v : Int)) = (z : Int) := (IntWalk.i64_in _ (by omega)).trans (by omega)
          have hct : wr.cell? ⟨g, m, none⟩ = some (.int .i64 (v : Int)) := cell_of H0.out m _ (by rw [rA_get _ _ _ (by omega), hv])
          have hft : wr.frozen? ⟨g, m, none⟩ = false := frozen_of_row _ _ _ _ _ H0.out
          have HW : Hid ((wr.setCell ⟨g, m, none⟩ (.int .i64 (z : Int))).heap[g]? = some (.cells (rA (pf (p ^^^ (if (pol (bf xs)).testBit i then bitsX (pol (bf ys)) (k + 1) <<< i else 0))) 255) 3 (0, 0))) := hid ((block_set H0.out m _).trans (by
            rw [HNX.out, HBA.out, HBB.out, hz, hv, rA_flip P m (by omega), hm]
            simp [h1, h2]))
          clear hv hvl hz hm h1 h2
          go_wp2_with fail
          refine (KA.out _ HB.out).mono ?_
          rintro e w1 ⟨rfl, rfl⟩
          go_wp2_with fail
          refine (KB.out _ HB.out).mono ?_
          rintro e w1 ⟨rfl, rfl⟩
          go_wp2
          have hk := HK.out
          go_roundg (128 - k - 1)
          case measure => omega
          case rel => exact ⟨k + 1, by omega, rfl, HW.out, HB.out.setCell HG.out _⟩
        · have h2i : ((gb : Int) == 1) = false := by rw [beq_eq_false_iff_ne]; omega
          have HW : Hid (wr.heap[g]? = some (.cells (rA (pf (p ^^^ (if (pol (bf xs)).testBit i then bitsX (pol (bf ys)) (k + 1) <<< i else 0))) 255) 3 (0, 0))) := hid (H0.out.trans (by
            rw [HNX.out, HBB.out]
            simp [h2]))
          clear h1
          go_wp2_with fail
          refine (KA.out _ HB.out).mono ?_
          rintro e w1 ⟨rfl, rfl⟩
          go_wp2_with fail
          refine (KB.out _ HB.out).mono ?_
          rintro e w1 ⟨rfl, rfl⟩
          go_wp2
          have hk := HK.out
          go_roundg (128 - k - 1)
          case measure => omega
          case rel => exact ⟨k + 1, by omega, rfl, HW.out, HB.out⟩
      · have h1i : ((ga : Int) == 1) = false := by rw [beq_eq_false_iff_ne]; omega
        have HW : Hid (wr.heap[g]? = some (.cells (rA (pf (p ^^^ (if (pol (bf xs)).testBit i then bitsX (pol (bf ys)) (k + 1) <<< i else 0))) 255) 3 (0, 0))) := hid (H0.out.trans (by
          rw [HNX.out, HBA.out]
          simp [h1]))
        go_wp2_with fail
        refine (KA.out _ HB.out).mono ?_
        rintro e w1 ⟨rfl, rfl⟩
        go_wp2
        have hk := HK.out
        go_roundg (128 - k - 1)
        case measure => omega
        case rel => exact ⟨k + 1, by omega, rfl, HW.out, HB.out⟩
    · have hke : k = 128 := by omega
      subst hke
      have HW : Hid (wr.heap[g]? = some (.cells (rA (pf (p ^^^ (if (pol (bf xs)).testBit i then bitsX (pol (bf ys)) 128 <<< i else 0))) 255) 3 (0, 0))) := hid (by rw [← HP.out]; exact H0.out)
      have hxk : ¬ ((128 : Nat) : Int) < 128 := by omega
      clear hxk
      go_wp2
      exact hexit _ _ _ _ _ _ _ _ _ _ _ _ _ _ _ _ _ _ _ _ _ _ _ _ _ _ _ HW.out HB.out
set_option maxRecDepth 100000 in
set_option maxHeartbeats 4000000 in
theorem prod12_l1 {Q : Exit → Act → World → Prop} (A A' : Option Addr) (xs ys : List UInt8) (c c' g : Nat) (wb w : World) (t2 t3 t4 t7 t8 t9 t10 t11 t12 t13 t14 t15 t16 t17 t18 t19 t20 t21 t22 t23 t24 t25 t26 t27 t28 t29 t30 t31 t32 t33 t34 t35 t36 t37 t38 t39 t40 t41 t42 t43 t44 t45 t46 t47 t48 t49 t50 t51 t52 t53 t54 t55 t56 t57 t58 t59 t60 t61 t62 t63 t64 t65 t66 t67 t68 t69 t70 t71 t72 t73 t74 t75 t76 t77 t78 t79 t80 t81 t82 t83 t84 t85 t86 t87 t88 t89 t90 t91 t92 t93 t94 t95 t96 t97 t98 t99 t100 t101 t102 t103 t104 t105 t106 t107 t108 t109 t110 t111 t112 t113 t114 t115 t116 t117 t118 t119 t120 t121 t122 t123 t124 t125 t126 t127 : Value) (hx : xs.length = 16) (hy : ys.length = 16) (hA : Lie wb wb.heap.size A (bvs xs)) (hA' : Lie wb wb.heap.size A' (bvs ys)) (hg : wb.heap.size ≤ g) (h0 : w.heap[g]? = some (.cells (rA (pf (0)) 255) 3 (0, 0))) (hb : Below wb.heap.size wb w)
    (hexit : ∀ (w' : World) (u7 u14 u15 u16 u17 u18 u19 u20 u21 u22 u23 u24 u25 u26 u27 u28 u29 u30 u31 u32 u33 u34 u35 u36 u37 u38 u39 u40 u41 u42 u43 : Value), w'.heap[g]? = some (.cells (rA (pf (cm (pol (bf xs)) (pol (bf ys)) 128)) 255) 3 (0, 0)) → Below wb.heap.size wb w' → Q (.exit 0) ⟨((.slice A 16 c) :: (.slice A' 16 c') :: t2 :: t3 :: t4 :: (.slice (some ⟨g, 0, none⟩) 255 255) :: (.int .i64 128) :: u7 :: t8 :: t9 :: t10 :: t11 :: t12 :: t13 :: u14 :: u15 :: u16 :: u17 :: u18 :: u19 :: u20 :: u21 :: u22 :: u23 :: u24 :: u25 :: u26 :: u27 :: u28 :: u29 :: u30 :: u31 :: u32 :: u33 :: u34 :: u35 :: u36 :: u37 :: u38 :: u39 :: u40 :: u41 :: u42 :: u43 :: t44 :: t45 :: t46 :: t47 :: t48 :: t49 :: t50 :: t51 :: t52 :: t53 :: t54 :: t55 :: t56 :: t57 :: t58 :: t59 :: t60 :: t61 :: t62 :: t63 :: t64 :: t65 :: t66 :: t67 :: t68 :: t69 :: t70 :: t71 :: t72 :: t73 :: t74 :: t75 :: t76 :: t77 :: t78 :: t79 :: t80 :: t81 :: t82 :: t83 :: t84 :: t85 :: t86 :: t87 :: t88 :: t89 :: t90 :: t91 :: t92 :: t93 :: t94 :: t95 :: t96 :: t97 :: t98 :: t99 :: t100 :: t101 :: t102 :: t103 :: t104 :: t105 :: t106 :: t107 :: t108 :: t109 :: t110 :: t111 :: t112 :: t113 :: t114 :: t115 :: t116 :: t117 :: t118 :: t119 :: t120 :: t121 :: t122 :: t123 :: t124 :: t125 :: t126 :: t127 :: []).toArray, []⟩ w') :
    Code.wp Try.prog (Code.loop (loopN Try.f16 0)) Q ⟨((.slice A 16 c) :: (.slice A' 16 c') :: t2 :: t3 :: t4 :: (.slice (some ⟨g, 0, none⟩) 255 255) :: (.int .i64 0) :: t7 :: t8 :: t9 :: t10 :: t11 :: t12 :: t13 :: t14 :: t15 :: t16 :: t17 :: t18 :: t19 :: t20 :: t21 :: t22 :: t23 :: t24 :: t25 :: t26 :: t27 :: t28 :: t29 :: t30 :: t31 :: t32 :: t33 :: t34 :: t35 :: t36 :: t37 :: t38 :: t39 :: t40 :: t41 :: t42 :: t43 :: t44 :: t45 :: t46 :: t47 :: t48 :: t49 :: t50 :: t51 :: t52 :: t53 :: t54 :: t55 :: t56 :: t57 :: t58 :: t59 :: t60 :: t61 :: t62 :: t63 :: t64 :: t65 :: t66 :: t67 :: t68 :: t69 :: t70 :: t71 :: t72 :: t73 :: t74 :: t75 :: t76 :: t77 :: t78 :: t79 :: t80 :: t81 :: t82 :: t83 :: t84 :: t85 :: t86 :: t87 :: t88 :: t89 :: t90 :: t91 :: t92 :: t93 :: t94 :: t95 :: t96 :: t97 :: t98 :: t99 :: t100 :: t101 :: t102 :: t103 :: t104 :: t105 :: t106 :: t107 :: t108 :: t109 :: t110 :: t111 :: t112 :: t113 :: t114 :: t115 :: t116 :: t117 :: t118 :: t119 :: t120 :: t121 :: t122 :: t123 :: t124 :: t125 :: t126 :: t127 :: []).toArray, []⟩ w := by
  conv => arg 2; arg 1; whnf
  have HA := hid hA; have HA' := hid hA'; have HX := hid hx; have HY := hid hy; have HG := hid hg
  clear hA hA' hx hy hg
  go_loopg [6] 128 (fun q kk wr => ∃ i : Nat, i + q = 128 ∧ kk = .int .i64 (i : Int) ∧ wr.heap[g]? = some (.cells (rA (pf (cm (pol (bf xs)) (pol (bf ys)) i)) 255) 3 (0, 0)) ∧ Below wb.heap.size wb wr)
  case atStart => exact ⟨0, rfl, rfl, h0, hb⟩
  case round =>
    clear h0 hb
    obtain ⟨i, hk, rfl, h0, hb⟩ := hrel
    have HK := hid hk; have H0 := hid h0; have HB := hid hb
    have hi128 : i ≤ 128 := by omega
    clear hk h0 hb
    by_cases hlt : i < 128
    · have hxk : (i : Int) < 128 := by omega
      clear hexit
      have hwi : IntKind.i64.wrap ((i : Int) + 1) = ((i + 1 : Nat) : Int) := (IntWalk.i64_in _ (by omega)).trans (by omega)
      go_wp2
      refine prod12_l2 A A' xs ys c c' g i (cm (pol (bf xs)) (pol (bf ys)) i) wb wr _ _ _ _ _ _ _ _ _ _ _ _ _ _ _ _ _ _ _ _ _ _ _ _ _ _ _ _ _ _ _ _ _ _ _ _ _ _ _ _ _ _ _ _ _ _ _ _ _ _ _ _ _ _ _ _ _ _ _ _ _ _ _ _ _ _ _ _ _ _ _ _ _ _ _ _ _ _ _ _ _ _ _ _ _ _ _ _ _ _ _ _ _ _ _ _ _ _ _ _ _ _ _ _ _ _ _ _ _ _ _ _ _ _ _ _ _ _ _ _ _ _ _ hlt HX.out HY.out HA.out HA'.out HG.out H0.out HB.out ?_
      intro w2 u18 u19 u20 u21 u22 u23 u24 u25 u26 u27 u28 u29 u30 u31 u32 u33 u34 u35 u36 u37 u38 u39 u40 u41 u42 u43 k0 k1
      have K0 := hid k0; have K1 := hid k1
      clear k0 k1
      go_wp2
      have hk := HK.out
      go_roundg (128 - i - 1)
      case measure => omega
      case rel => exact ⟨i + 1, by omega, rfl, K0.out, K1.out⟩
    · have hke : i = 128 := by omega
      subst hke
      have hxk : ¬ ((128 : Nat) : Int) < 128 := by omega
      clear hxk
      go_wp2
      exact hexit _ _ _ _ _ _ _ _ _ _ _ _ _ _ _ _ _ _ _ _ _ _ _ _ _ _ _ _ _ _ _ _ H0.out HB.out
end Go.Proofs.Ytojlmlmjmlbjmaa
end
section
namespace Go.Proofs.Ytojlmlmjmlbjmaa
open Go.RowKit
set_option linter.unusedVariables false
set_option linter.unusedSimpArgs false
set_option maxRecDepth 100000 in
set_option maxHeartbeats 4000000 in
theorem prod12_l3 {Q : Exit → Act → World → Prop} (g p : Nat) (wb w : World) (t0 t1 t2 t3 t4 t6 t7 t9 t10 t11 t12 t13 t14 t15 t16 t17 t18 t19 t20 t21 t22 t23 t24 t25 t26 t27 t28 t29 t30 t31 t32 t33 t34 t35 t36 t37 t38 t39 t40 t41 t42 t43 t44 t45 t46 t47 t48 t49 t50 t51 t52 t53 t54 t55 t56 t57 t58 t59 t60 t61 t62 t63 t64 t65 t66 t67 t68 t69 t70 t71 t72 t73 t74 t75 t76 t77 t78 t79 t80 t81 t82 t83 t84 t85 t86 t87 t88 t89 t90 t91 t92 t93 t94 t95 t96 t97 t98 t99 t100 t101 t102 t103 t104 t105 t106 t107 t108 t109 t110 t111 t112 t113 t114 t115 t116 t117 t118 t119 t120 t121 t122 t123 t124 t125 t126 t127 : Value) (hg : wb.heap.size ≤ g) (h0 : w.heap[g]? = some (.cells (rA (pf (p)) 255) 3 (0, 0))) (hb : Below wb.heap.size wb w)
    (hexit : ∀ (w' : World) (u44 u45 u46 u47 u48 u49 u50 u51 u52 u53 u54 u55 u56 u57 u58 u59 u60 u61 u62 u63 u64 u65 u66 u67 u68 u69 u70 u71 u72 u73 u74 u75 u76 u77 u78 u79 u80 u81 u82 u83 u84 u85 u86 u87 u88 u89 u90 u91 u92 u93 u94 u95 : Value), w'.heap[g]? = some (.cells (rA (pf (rdN p 127)) 255) 3 (0, 0)) → Below wb.heap.size wb w' → Q (.exit 4) ⟨(t0 :: t1 :: t2 :: t3 :: t4 :: (.slice (some ⟨g, 0, none⟩) 255 255) :: t6 :: t7 :: (.int .i64 127) :: t9 :: t10 :: t11 :: t12 :: t13 :: t14 :: t15 :: t16 :: t17 :: t18 :: t19 :: t20 :: t21 :: t22 :: t23 :: t24 :: t25 :: t26 :: t27 :: t28 :: t29 :: t30 :: t31 :: t32 :: t33 :: t34 :: t35 :: t36 :: t37 :: t38 :: t39 :: t40 :: t41 :: t42 :: t43 :: u44 :: u45 :: u46 :: u47 :: u48 :: u49 :: u50 :: u51 :: u52 :: u53 :: u54 :: u55 :: u56 :: u57 :: u58 :: u59 :: u60 :: u61 :: u62 :: u63 :: u64 :: u65 :: u66 :: u67 :: u68 :: u69 :: u70 :: u71 :: u72 :: u73 :: u74 :: u75 :: u76 :: u77 :: u78 :: u79 :: u80 :: u81 :: u82 :: u83 :: u84 :: u85 :: u86 :: u87 :: u88 :: u89 :: u90 :: u91 :: u92 :: u93 :: u94 :: u95 :: t96 :: t97 :: t98 :: t99 :: t100 :: t101 :: t102 :: t103 :: t104 :: t105 :: t106 :: t107 :: t108 :: t109 :: t110 :: t111 :: t112 :: t113 :: t114 :: t115 :: t116 :: t117 :: t118 :: t119 :: t120 :: t121 :: t122 :: t123 :: t124 :: t125 :: t126 :: t127 :: []).toArray, []⟩ w') :
    Code.wp Try.prog (Code.loop (loopN Try.f16 2)) Q ⟨(t0 :: t1 :: t2 :: t3 :: t4 :: (.slice (some ⟨g, 0, none⟩) 255 255) :: t6 :: t7 :: (.int .i64 254) :: t9 :: t10 :: t11 :: t12 :: t13 :: t14 :: t15 :: t16 :: t17 :: t18 :: t19 :: t20 :: t21 :: t22 :: t23 :: t24 :: t25 :: t26 :: t27 :: t28 :: t29 :: t30 :: t31 :: t32 :: t33 :: t34 :: t35 :: t36 :: t37 :: t38 :: t39 :: t40 :: t41 :: t42 :: t43 :: t44 :: t45 :: t46 :: t47 :: t48 :: t49 :: t50 :: t51 :: t52 :: t53 :: t54 :: t55 :: t56 :: t57 :: t58 :: t59 :: t60 :: t61 :: t62 :: t63 :: t64 :: t65 :: t66 :: t67 :: t68 :: t69 :: t70 :: t71 :: t72 :: t73 :: t74 :: t75 :: t76 :: t77 :: t78 :: t79 :: t80 :: t81 :: t82 :: t83 :: t84 :: t85 :: t86 :: t87 :: t88 :: t89 :: t90 :: t91 :: t92 :: t93 :: t94 :: t95 :: t96 :: t97 :: t98 :: t99 :: t100 :: t101 :: t102 :: t103 :: t104 :: t105 :: t106 :: t107 :: t108 :: t109 :: t110 :: t111 :: t112 :: t113 :: t114 :: t115 :: t116 :: t117 :: t118 :: t119 :: t120 :: t121 :: t122 :: t123 :: t124 :: t125 :: t126 :: t127 :: []).toArray, []⟩ w := by
  conv => arg 2; arg 1; whnf
  have HG := hid hg
  clear hg
  go_loopg [8] 127 (fun q nn wr => ∃ j : Nat, j + q = 127 ∧ nn = .int .i64 ((254 - j : Nat) : Int) ∧ wr.heap[g]? = some (.cells (rA (pf (rdN p j)) 255) 3 (0, 0)) ∧ Below wb.heap.size wb wr)
  case atStart => exact ⟨0, rfl, rfl, h0, hb⟩
  case round =>
    clear h0 hb
    obtain ⟨j, hk, rfl, h0, hb⟩ := hrel
    have HK := hid hk; have HB := hid hb
    have hj127 : j ≤ 127 := by omega
    obtain ⟨R, hR⟩ : ∃ R, R = rdN p j := ⟨_, rfl⟩
    rw [← hR] at h0
    obtain ⟨n, hn⟩ : ∃ n, n = 254 - j := ⟨_, rfl⟩
    rw [← hn]
    have H0 := hid h0; have HR := hid hR; have HN := hid hn
    by_cases hlt : j < 127
    · have hxn : (128 : Int) ≤ (n : Int) := by omega
      have hn255 : (n : Int) < 255 := by omega
      have hn0 : (0 : Int) ≤ (n : Int) := by omega
      obtain ⟨nn, hnn⟩ : ∃ n', n' = 254 - (j + 1) := ⟨_, rfl⟩
      have hwi : IntKind.i64.wrap ((n : Int) - 1) = (nn : Int) := (IntWalk.i64_in _ (by omega)).trans (by omega)
      have HNN := hid hnn; have HL := hid hlt
      clear hnn
      have hcn : wr.cell? ⟨g, n, none⟩ = some (.int .i64 ((pf R n : Nat) : Int)) := cell_of h0 n _ (rA_get _ _ _ (by omega))
      have hstep : rdN p (j + 1) = if R.testBit n then R ^^^ 2 ^ n ^^^ 2 ^ (n - 128) ^^^ 2 ^ (n - 127) ^^^ 2 ^ (n - 126) ^^^ 2 ^ (n - 121) else R := by
        show (if (rdN p j).testBit (254 - j) then _ else _) = _
        rw [← hR, ← hn]
      have HST := hid hstep
      clear hexit hstep
      by_cases hbit : R.testBit n = true
      · have hv : pf R n = 1 := by unfold pf; rw [if_pos hbit]
        rw [hv] at hcn
        obtain ⟨m1, hm1⟩ : ∃ m, m = n - 128 := ⟨_, rfl⟩
        obtain ⟨m2, hm2⟩ : ∃ m, m = n - 127 := ⟨_, rfl⟩
        obtain ⟨m3, hm3⟩ : ∃ m, m = n - 126 := ⟨_, rfl⟩
        obtain ⟨m4, hm4⟩ : ∃ m, m = n - 121 := ⟨_, rfl⟩
        have b1 : m1 < 255 := by omega
        have b2 : m2 < 255 := by omega
        have b3 : m3 < 255 := by omega
        have b4 : m4 < 255 := by omega
        have bn : n < 255 := by omega
        have e1 : IntKind.i64.wrap ((n : Int) - 128) = (m1 : Int) := (IntWalk.i64_in _ (by omega)).trans (by omega)
        have e2 : IntKind.i64.wrap ((n : Int) - 127) = (m2 : Int) := (IntWalk.i64_in _ (by omega)).trans (by omega)
        have e3 : IntKind.i64.wrap ((n : Int) - 126) = (m3 : Int) := (IntWalk.i64_in _ (by omega)).trans (by omega)
        have e4 : IntKind.i64.wrap ((n : Int) - 121) = (m4 : Int) := (IntWalk.i64_in _ (by omega)).trans (by omega)
        have c1 : (m1 : Int) < 255 := by omega
        have c2 : (m2 : Int) < 255 := by omega
        have c3 : (m3 : Int) < 255 := by omega
        have c4 : (m4 : Int) < 255 := by omega
        have d1 : (0 : Int) ≤ (m1 : Int) := Int.natCast_nonneg _
        have d2 : (0 : Int) ≤ (m2 : Int) := Int.natCast_nonneg _
        have d3 : (0 : Int) ≤ (m3 : Int) := Int.natCast_nonneg _
        have d4 : (0 : Int) ≤ (m4 : Int) := Int.natCast_nonneg _
        have hfn : wr.frozen? ⟨g, n, none⟩ = false := frozen_of_row _ _ _ _ _ h0
        have r1 : (wr.setCell ⟨g, n, none⟩ (.int .i64 0)).heap[g]? = some (.cells (rA (pf (R ^^^ 2 ^ n)) 255) 3 (0, 0)) := (block_set h0 n _).trans (by
          have e := rA_flip R n bn
          rw [hv] at e
          rw [← e]; rfl)
        obtain ⟨v1, hv1⟩ : ∃ v, v = pf (R ^^^ 2 ^ n) m1 := ⟨_, rfl⟩
        have l1 : v1 ≤ 1 := by rw [hv1]; exact pf_le _ _
        obtain ⟨z1, hz1⟩ : ∃ z, z = 1 - v1 := ⟨_, rfl⟩
        have f1 : IntKind.i64.wrap (1 - (v1 : Int)) = (z1 : Int) := (IntWalk.i64_in _ (by omega)).trans (by omega)
        have s1 : (wr.setCell ⟨g, n, none⟩ (.int .i64 0)).cell? ⟨g, m1, none⟩ = some (.int .i64 (v1 : Int)) := cell_of r1 m1 _ (by rw [rA_get _ _ _ b1, hv1])
        have q1 : (wr.setCell ⟨g, n, none⟩ (.int .i64 0)).frozen? ⟨g, m1, none⟩ = false := frozen_of_row _ _ _ _ _ r1
        have r2 : ((wr.setCell ⟨g, n, none⟩ (.int .i64 0)).setCell ⟨g, m1, none⟩ (.int .i64 (z1 : Int))).heap[g]? = some (.cells (rA (pf (R ^^^ 2 ^ n ^^^ 2 ^ m1)) 255) 3 (0, 0)) := (block_set r1 m1 _).trans (by rw [hz1, hv1, rA_flip _ m1 b1])
        obtain ⟨v2, hv2⟩ : ∃ v, v = pf (R ^^^ 2 ^ n ^^^ 2 ^ m1) m2 := ⟨_, rfl⟩
        have l2 : v2 ≤ 1 := by rw [hv2]; exact pf_le _ _
        obtain ⟨z2, hz2⟩ : ∃ z, z = 1 - v2 := ⟨_, rfl⟩
        have f2 : IntKind.i64.wrap (1 - (v2 : Int)) = (z2 : Int) := (IntWalk.i64_in _ (by omega)).trans (by omega)
        have s2 : ((wr.setCell ⟨g, n, none⟩ (.int .i64 0)).setCell ⟨g, m1, none⟩ (.int .i64 (z1 : Int))).cell? ⟨g, m2, none⟩ = some (.int .i64 (v2 : Int)) := cell_of r2 m2 _ (by rw [rA_get _ _ _ b2, hv2])
        have q2 : ((wr.setCell ⟨g, n, none⟩ (.int .i64 0)).setCell ⟨g, m1, none⟩ (.int .i64 (z1 : Int))).frozen? ⟨g, m2, none⟩ = false := frozen_of_row _ _ _ _ _ r2
        have r3 : (((wr.setCell ⟨g, n, none⟩ (.int .i64 0)).setCell ⟨g, m1, none⟩ (.int .i64 (z1 : Int))).setCell ⟨g, m2, none⟩ (.int .i64 (z2 : Int))).heap[g]? = some (.cells (rA (pf (R ^^^ 2 ^ n ^^^ 2 ^ m1 ^^^ 2 ^ m2)) 255) 3 (0, 0)) := (block_set r2 m2 _).trans (by rw [hz2, hv2, rA_flip _ m2 b2])
        obtain ⟨v3, hv3⟩ : ∃ v, v = pf (R ^^^ 2 ^ n ^^^ 2 ^ m1 ^^^ 2 ^ m2) m3 := ⟨_, rfl⟩
        have l3 : v3 ≤ 1 := by rw [hv3]; exact pf_le _ _
        obtain ⟨z3, hz3⟩ : ∃ z, z = 1 - v3 := ⟨_, rfl⟩
        have f3 : IntKind.i64.wrap (1 - (v3 : Int)) = (z3 : Int) := (IntWalk.i64_in _ (by omega)).trans (by omega)
        have s3 : (((wr.setCell ⟨g, n, none⟩ (.int .i64 0)).setCell ⟨g, m1, none⟩ (.int .i64 (z1 : Int))).setCell ⟨g, m2, none⟩ (.int .i64 (z2 : Int))).cell? ⟨g, m3, none⟩ = some (.int .i64 (v3 : Int)) := cell_of r3 m3 _ (by rw [rA_get _ _ _ b3, hv3])
        have q3 : (((wr.setCell ⟨g, n, none⟩ (.int .i64 0)).setCell ⟨g, m1, none⟩ (.int .i64 (z1 : Int))).setCell ⟨g, m2, none⟩ (.int .i64 (z2 : Int))).frozen? ⟨g, m3, none⟩ = false := frozen_of_row _ _ _ _ _ r3
        have r4 : ((((wr.setCell ⟨g, n, none⟩ (.int .i64 0)).setCell ⟨g, m1, none⟩ (.int .i64 (z1 : Int))).setCell ⟨g, m2, none⟩ (.int .i64 (z2 : Int))).setCell ⟨g, m3, none⟩ (.int .i64 (z3 : Int))).heap[g]? = some (.cells (rA (pf (R ^^^ 2 ^ n ^^^ 2 ^ m1 ^^^ 2 ^ m2 ^^^ 2 ^ m3)) 255) 3 (0, 0)) := (block_set r3 m3 _).trans (by rw [hz3, hv3, rA_flip _ m3 b3])
        obtain ⟨v4, hv4⟩ : ∃ v, v = pf (R ^^^ 2 ^ n ^^^ 2 ^ m1 ^^^ 2 ^ m2 ^^^ 2 ^ m3) m4 := ⟨_, rfl⟩
        have l4 : v4 ≤ 1 := by rw [hv4]; exact pf_le _ _
        obtain ⟨z4, hz4⟩ : ∃ z, z = 1 - v4 := ⟨_, rfl⟩
        have f4 : IntKind.i64.wrap (1 - (v4 : Int)) = (z4 : Int) := (IntWalk.i64_in _ (by omega)).trans (by omega)
        have s4 : ((((wr.setCell ⟨g, n, none⟩ (.int .i64 0)).setCell ⟨g, m1, none⟩ (.int .i64 (z1 : Int))).setCell ⟨g, m2, none⟩ (.int .i64 (z2 : Int))).setCell ⟨g, m3, none⟩ (.int .i64 (z3 : Int))).cell? ⟨g, m4, none⟩ = some (.int .i64 (v4 : Int)) := cell_of r4 m4 _ (by rw [rA_get _ _ _ b4, hv4])
        have q4 : ((((wr.setCell ⟨g, n, none⟩ (.int .i64 0)).setCell ⟨g, m1, none⟩ (.int .i64 (z1 : Int))).setCell ⟨g, m2, none⟩ (.int .i64 (z2 : Int))).setCell ⟨g, m3, none⟩ (.int .i64 (z3 : Int))).frozen? ⟨g, m4, none⟩ = false := frozen_of_row _ _ _ _ _ r4
        have r5 : (((((wr.setCell ⟨g, n, none⟩ (.int .i64 0)).setCell ⟨g, m1, none⟩ (.int .i64 (z1 : Int))).setCell ⟨g, m2, none⟩ (.int .i64 (z2 : Int))).setCell ⟨g, m3, none⟩ (.int .i64 (z3 : Int))).setCell ⟨g, m4, none⟩ (.int .i64 (z4 : Int))).heap[g]? = some (.cells (rA (pf (R ^^^ 2 ^ n ^^^ 2 ^ m1 ^^^ 2 ^ m2 ^^^ 2 ^ m3 ^^^ 2 ^ m4)) 255) 3 (0, 0)) := (block_set r4 m4 _).trans (by rw [hz4, hv4, rA_flip _ m4 b4])
        have HW : Hid ((((((wr.setCell ⟨g, n, none⟩ (.int .i64 0)).setCell ⟨g, m1, none⟩ (.int .i64 (z1 : Int))).setCell ⟨g, m2, none⟩ (.int .i64 (z2 : Int))).setCell ⟨g, m3, none⟩ (.int .i64 (z3 : Int))).setCell ⟨g, m4, none⟩ (.int .i64 (z4 : Int))).heap[g]? = some (.cells (rA (pf (rdN p (j + 1))) 255) 3 (0, 0))) := hid (r5.trans (by rw [HST.out, if_pos hbit, hm1, hm2, hm3, hm4]))
        have HB5 : Hid (Below wb.heap.size wb (((((wr.setCell ⟨g, n, none⟩ (.int .i64 0)).setCell ⟨g, m1, none⟩ (.int .i64 (z1 : Int))).setCell ⟨g, m2, none⟩ (.int .i64 (z2 : Int))).setCell ⟨g, m3, none⟩ (.int .i64 (z3 : Int))).setCell ⟨g, m4, none⟩ (.int .i64 (z4 : Int)))) := hid (((((hb.setCell HG.out _).setCell HG.out _).setCell HG.out _).setCell HG.out _).setCell HG.out _)
        clear hk hb h0 hR hn hv hbit hm1 hm2 hm3 hm4 b1 b2 b3 b4 bn hv1 hv2 hv3 hv4 l1 l2 l3 l4 hz1 hz2 hz3 hz4 r1 r2 r3 r4 r5 hj127 hlt
        go_wp2
        have hk := HK.out
        have hlt := HL.out
        go_roundg (127 - j - 1)
        case measure => omega
        case rel => exact ⟨j + 1, by omega, by rw [HNN.out], HW.out, HB5.out⟩
      · have hv : pf R n = 0 := by unfold pf; rw [if_neg hbit]
        rw [hv] at hcn
        have HW : Hid (wr.heap[g]? = some (.cells (rA (pf (rdN p (j + 1))) 255) 3 (0, 0))) := hid (h0.trans (by rw [HST.out, if_neg hbit]))
        clear hk hb h0 hR hn hv hbit
        go_wp2
        have hk := HK.out
        go_roundg (127 - j - 1)
        case measure => omega
        case rel => exact ⟨j + 1, by omega, by rw [HNN.out], HW.out, HB.out⟩
    · have hke : j = 127 := by omega
      subst hke
      have hn127 : n = 127 := by omega
      have HW : Hid (wr.heap[g]? = some (.cells (rA (pf (rdN p 127)) 255) 3 (0, 0))) := hid (by rw [← HR.out]; exact h0)
      clear hk hb h0 hR hn HN
      subst hn127
      have hxn : ¬ (128 : Int) ≤ ((127 : Nat) : Int) := by omega
      clear hxn
      go_wp2
      exact hexit _ _ _ _ _ _ _ _ _ _ _ _ _ _ _ _ _ _ _ _ _ _ _ _ _ _ _ _ _ _ _ _ _ _ _ _ _ _ _ _ _ _ _ _ _ _ _ _ _ _ _ _ _ HW.out HB.out
end Go.Proofs.Ytojlmlmjmlbjmaa
end
section
namespace Go.Proofs.Ytojlmlmjmlbjmaa
open Go.RowKit
set_option linter.unusedVariables false
set_option linter.unusedSimpArgs false
set_option maxRecDepth 100000 in
set_option maxHeartbeats 4000000 in
theorem prod12_l5 {Q : Exit → Act → World → Prop} (i : Nat) (w : World) (t0 t1 t2 t3 t4 t5 t6 t7 t8 t9 t13 t14 t15 t16 t17 t18 t19 t20 t21 t22 t23 t24 t25 t26 t27 t28 t29 t30 t31 t32 t33 t34 t35 t36 t37 t38 t39 t40 t41 t42 t43 t44 t45 t46 t47 t48 t49 t50 t51 t52 t53 t54 t55 t56 t57 t58 t59 t60 t61 t62 t63 t64 t65 t66 t67 t68 t69 t70 t71 t72 t73 t74 t75 t76 t77 t78 t79 t80 t81 t82 t83 t84 t85 t86 t87 t88 t89 t90 t91 t92 t93 t94 t95 t96 t97 t98 t99 t100 t101 t102 t103 t104 t105 t106 t107 t108 t109 t110 t111 t112 t113 t114 t115 t116 t117 t118 t119 t120 t121 t122 t123 t124 t125 t126 t127 : Value) (hi : i < 128)
    (hexit : ∀ (w' : World) (u12 u106 u107 u108 u109 u110 u111 u112 u113 u114 : Value), w' = w → Q (.exit 8) ⟨(t0 :: t1 :: t2 :: t3 :: t4 :: t5 :: t6 :: t7 :: t8 :: t9 :: (.int .i64 (i : Int)) :: (.int .i64 ((2 ^ (7 - i % 8) : Nat) : Int)) :: u12 :: t13 :: t14 :: t15 :: t16 :: t17 :: t18 :: t19 :: t20 :: t21 :: t22 :: t23 :: t24 :: t25 :: t26 :: t27 :: t28 :: t29 :: t30 :: t31 :: t32 :: t33 :: t34 :: t35 :: t36 :: t37 :: t38 :: t39 :: t40 :: t41 :: t42 :: t43 :: t44 :: t45 :: t46 :: t47 :: t48 :: t49 :: t50 :: t51 :: t52 :: t53 :: t54 :: t55 :: t56 :: t57 :: t58 :: t59 :: t60 :: t61 :: t62 :: t63 :: t64 :: t65 :: t66 :: t67 :: t68 :: t69 :: t70 :: t71 :: t72 :: t73 :: t74 :: t75 :: t76 :: t77 :: t78 :: t79 :: t80 :: t81 :: t82 :: t83 :: t84 :: t85 :: t86 :: t87 :: t88 :: t89 :: t90 :: t91 :: t92 :: t93 :: t94 :: t95 :: t96 :: t97 :: t98 :: t99 :: t100 :: t101 :: t102 :: t103 :: t104 :: t105 :: u106 :: u107 :: u108 :: u109 :: u110 :: u111 :: u112 :: u113 :: u114 :: t115 :: t116 :: t117 :: t118 :: t119 :: t120 :: t121 :: t122 :: t123 :: t124 :: t125 :: t126 :: t127 :: []).toArray, []⟩ w') :
    Code.wp Try.prog (Code.loop (loopN Try.f16 4)) Q ⟨(t0 :: t1 :: t2 :: t3 :: t4 :: t5 :: t6 :: t7 :: t8 :: t9 :: (.int .i64 (i : Int)) :: (.int .i64 1) :: (.int .i64 0) :: t13 :: t14 :: t15 :: t16 :: t17 :: t18 :: t19 :: t20 :: t21 :: t22 :: t23 :: t24 :: t25 :: t26 :: t27 :: t28 :: t29 :: t30 :: t31 :: t32 :: t33 :: t34 :: t35 :: t36 :: t37 :: t38 :: t39 :: t40 :: t41 :: t42 :: t43 :: t44 :: t45 :: t46 :: t47 :: t48 :: t49 :: t50 :: t51 :: t52 :: t53 :: t54 :: t55 :: t56 :: t57 :: t58 :: t59 :: t60 :: t61 :: t62 :: t63 :: t64 :: t65 :: t66 :: t67 :: t68 :: t69 :: t70 :: t71 :: t72 :: t73 :: t74 :: t75 :: t76 :: t77 :: t78 :: t79 :: t80 :: t81 :: t82 :: t83 :: t84 :: t85 :: t86 :: t87 :: t88 :: t89 :: t90 :: t91 :: t92 :: t93 :: t94 :: t95 :: t96 :: t97 :: t98 :: t99 :: t100 :: t101 :: t102 :: t103 :: t104 :: t105 :: t106 :: t107 :: t108 :: t109 :: t110 :: t111 :: t112 :: t113 :: t114 :: t115 :: t116 :: t117 :: t118 :: t119 :: t120 :: t121 :: t122 :: t123 :: t124 :: t125 :: t126 :: t127 :: []).toArray, []⟩ w := by
  conv => arg 2; arg 1; whnf
  obtain ⟨r, hr⟩ : ∃ r, r = i % 8 := ⟨_, rfl⟩
  obtain ⟨s, hs⟩ : ∃ s, s = 7 - r := ⟨_, rfl⟩
  have hr1 : ((i : Int)).tmod 8 = (r : Int) := by rw [Int.tmod_eq_emod_of_nonneg (by omega)]; omega
  have hr2 : (i : Int) % 8 = (r : Int) := by omega
  have hrw : IntKind.i64.wrap (r : Int) = (r : Int) := IntWalk.i64_in _ (by omega)
  have hsw : IntKind.i64.wrap (7 - (r : Int)) = (s : Int) := (IntWalk.i64_in _ (by omega)).trans (by omega)
  have hs7 : s ≤ 7 := by omega
  rw [← hr, ← hs] at hexit
  clear hr hs
  go_loopg [11, 12] s (fun q uu kk wr => ∃ k : Nat, k + q = s ∧ kk = .int .i64 (k : Int) ∧ uu = .int .i64 ((2 ^ k : Nat) : Int) ∧ w = wr)
  case atStart => exact ⟨0, by omega, rfl, rfl, rfl⟩
  case round =>
    obtain ⟨k, hk, rfl, rfl, rfl⟩ := hrel
    have HK := hid hk
    have hks : k ≤ s := by omega
    obtain ⟨x, hx⟩ : ∃ x, x = 2 ^ k := ⟨_, rfl⟩
    have hxl : x ≤ 128 := by rw [hx]; exact Nat.pow_le_pow_right (n := 2) (by omega) (by omega : k ≤ 7)
    rw [← hx]
    have HX := hid hx
    clear hk hx
    by_cases hlt : k < s
    · have hki : (k : Int) < (s : Int) := by omega
      have hwi : IntKind.i64.wrap ((k : Int) + 1) = ((k + 1 : Nat) : Int) := (IntWalk.i64_in _ (by omega)).trans (by omega)
      obtain ⟨z, hz⟩ : ∃ z, z = 2 * x := ⟨_, rfl⟩
      have hzw : IntKind.i64.wrap (2 * (x : Int)) = (z : Int) := (IntWalk.i64_in _ (by omega)).trans (by omega)
      have HZ := hid hz
      clear hexit hz hxl
      go_wp2
      have hk := HK.out
      go_roundg (s - k - 1)
      case measure => omega
      case rel => exact ⟨k + 1, by omega, rfl, by rw [HZ.out, HX.out, Nat.pow_succ, Nat.mul_comm], rfl⟩
    · have hke : k = s := by omega
      have hki : ¬ (k : Int) < (s : Int) := by omega
      subst hke
      have HE : Hid _ := hid hexit
      clear hxl hexit
      go_wp2
      rw [HX.out]
      exact HE.out _ _ _ _ _ _ _ _ _ _ _ rfl
set_option maxRecDepth 100000 in
set_option maxHeartbeats 4000000 in
theorem prod12_l4 {Q : Exit → Act → World → Prop} (g go p : Nat) (wb w : World) (t0 t1 t2 t3 t4 t6 t7 t8 t11 t12 t13 t14 t15 t16 t17 t18 t19 t20 t21 t22 t23 t24 t25 t26 t27 t28 t29 t30 t31 t32 t33 t34 t35 t36 t37 t38 t39 t40 t41 t42 t43 t44 t45 t46 t47 t48 t49 t50 t51 t52 t53 t54 t55 t56 t57 t58 t59 t60 t61 t62 t63 t64 t65 t66 t67 t68 t69 t70 t71 t72 t73 t74 t75 t76 t77 t78 t79 t80 t81 t82 t83 t84 t85 t86 t87 t88 t89 t90 t91 t92 t93 t94 t95 t96 t97 t98 t99 t100 t101 t102 t103 t104 t105 t106 t107 t108 t109 t110 t111 t112 t113 t114 t115 t116 t117 t118 t119 t120 t121 t122 t123 t124 t125 t126 t127 : Value) (hgo : wb.heap.size ≤ go) (hne : g ≠ go) (h0 : w.heap[g]? = some (.cells (rA (pf (p)) 255) 3 (0, 0))) (h1 : w.heap[go]? = some (.cells (bR (fun _ => 0)) 5 (0, 0))) (hb : Below wb.heap.size wb w)
    (hexit : ∀ (w' : World) (u11 u12 u97 u98 u99 u100 u101 u102 u103 u104 u105 u106 u107 u108 u109 u110 u111 u112 u113 u114 u115 u116 u117 u118 u119 u120 u121 u122 u123 u124 u125 u126 : Value), w'.heap[go]? = some (.cells (bR (ub p 128)) 5 (0, 0)) → Below wb.heap.size wb w' → Q (.exit 6) ⟨(t0 :: t1 :: t2 :: t3 :: t4 :: (.slice (some ⟨g, 0, none⟩) 255 255) :: t6 :: t7 :: t8 :: (.slice (some ⟨go, 0, none⟩) 16 16) :: (.int .i64 128) :: u11 :: u12 :: t13 :: t14 :: t15 :: t16 :: t17 :: t18 :: t19 :: t20 :: t21 :: t22 :: t23 :: t24 :: t25 :: t26 :: t27 :: t28 :: t29 :: t30 :: t31 :: t32 :: t33 :: t34 :: t35 :: t36 :: t37 :: t38 :: t39 :: t40 :: t41 :: t42 :: t43 :: t44 :: t45 :: t46 :: t47 :: t48 :: t49 :: t50 :: t51 :: t52 :: t53 :: t54 :: t55 :: t56 :: t57 :: t58 :: t59 :: t60 :: t61 :: t62 :: t63 :: t64 :: t65 :: t66 :: t67 :: t68 :: t69 :: t70 :: t71 :: t72 :: t73 :: t74 :: t75 :: t76 :: t77 :: t78 :: t79 :: t80 :: t81 :: t82 :: t83 :: t84 :: t85 :: t86 :: t87 :: t88 :: t89 :: t90 :: t91 :: t92 :: t93 :: t94 :: t95 :: t96 :: u97 :: u98 :: u99 :: u100 :: u101 :: u102 :: u103 :: u104 :: u105 :: u106 :: u107 :: u108 :: u109 :: u110 :: u111 :: u112 :: u113 :: u114 :: u115 :: u116 :: u117 :: u118 :: u119 :: u120 :: u121 :: u122 :: u123 :: u124 :: u125 :: u126 :: t127 :: []).toArray, []⟩ w') :
    Code.wp Try.prog (Code.loop (loopN Try.f16 3)) Q ⟨(t0 :: t1 :: t2 :: t3 :: t4 :: (.slice (some ⟨g, 0, none⟩) 255 255) :: t6 :: t7 :: t8 :: (.slice (some ⟨go, 0, none⟩) 16 16) :: (.int .i64 0) :: t11 :: t12 :: t13 :: t14 :: t15 :: t16 :: t17 :: t18 :: t19 :: t20 :: t21 :: t22 :: t23 :: t24 :: t25 :: t26 :: t27 :: t28 :: t29 :: t30 :: t31 :: t32 :: t33 :: t34 :: t35 :: t36 :: t37 :: t38 :: t39 :: t40 :: t41 :: t42 :: t43 :: t44 :: t45 :: t46 :: t47 :: t48 :: t49 :: t50 :: t51 :: t52 :: t53 :: t54 :: t55 :: t56 :: t57 :: t58 :: t59 :: t60 :: t61 :: t62 :: t63 :: t64 :: t65 :: t66 :: t67 :: t68 :: t69 :: t70 :: t71 :: t72 :: t73 :: t74 :: t75 :: t76 :: t77 :: t78 :: t79 :: t80 :: t81 :: t82 :: t83 :: t84 :: t85 :: t86 :: t87 :: t88 :: t89 :: t90 :: t91 :: t92 :: t93 :: t94 :: t95 :: t96 :: t97 :: t98 :: t99 :: t100 :: t101 :: t102 :: t103 :: t104 :: t105 :: t106 :: t107 :: t108 :: t109 :: t110 :: t111 :: t112 :: t113 :: t114 :: t115 :: t116 :: t117 :: t118 :: t119 :: t120 :: t121 :: t122 :: t123 :: t124 :: t125 :: t126 :: t127 :: []).toArray, []⟩ w := by
  conv => arg 2; arg 1; whnf
  have HGO := hid hgo; have HNE := hid hne
  have h1' : w.heap[go]? = some (.cells (bR (ub p 0)) 5 (0, 0)) := h1
  clear hgo hne h1
  go_loopg [10] 128 (fun q ii wr => ∃ i : Nat, i + q = 128 ∧ ii = .int .i64 (i : Int) ∧ wr.heap[g]? = some (.cells (rA (pf (p)) 255) 3 (0, 0)) ∧ wr.heap[go]? = some (.cells (bR (ub p i)) 5 (0, 0)) ∧ Below wb.heap.size wb wr)
  case atStart => exact ⟨0, rfl, rfl, h0, h1', hb⟩
  case round =>
    clear h0 h1' hb
    obtain ⟨i, hk, rfl, h0, h1, hb⟩ := hrel
    have HK := hid hk; have H0 := hid h0; have H1 := hid h1; have HB := hid hb
    have hi128 : i ≤ 128 := by omega
    clear hk h0 h1 hb
    by_cases hlt : i < 128
    · have hxi : (i : Int) < 128 := by omega
      have hi255 : (i : Int) < 255 := by omega
      have hi0 : (0 : Int) ≤ (i : Int) := by omega
      have hwi : IntKind.i64.wrap ((i : Int) + 1) = ((i + 1 : Nat) : Int) := (IntWalk.i64_in _ (by omega)).trans (by omega)
      clear hexit
      have hcn : wr.cell? ⟨g, i, none⟩ = some (.int .i64 ((pf p i : Nat) : Int)) := cell_of H0.out i _ (rA_get _ _ _ (by omega))
      by_cases hbit : p.testBit i = true
      · have hv : pf p i = 1 := by unfold pf; rw [if_pos hbit]
        rw [hv] at hcn
        obtain ⟨q, hq⟩ : ∃ q, q = i / 8 := ⟨_, rfl⟩
        have hq1 : ((i : Int)).tdiv 8 = (q : Int) := by rw [Int.tdiv_eq_ediv_of_nonneg (by omega)]; omega
        have hq2 : (i : Int) / 8 = (q : Int) := by omega
        have hqw : IntKind.i64.wrap (q : Int) = (q : Int) := IntWalk.i64_in _ (by omega)
        have hq16 : (q : Int) < 16 := by omega
        have hq0 : (0 : Int) ≤ (q : Int) := by omega
        obtain ⟨x, hx⟩ : ∃ x, x = ub p i q := ⟨_, rfl⟩
        obtain ⟨u, hu⟩ : ∃ u, u = 2 ^ (7 - i % 8) := ⟨_, rfl⟩
        obtain ⟨z, hz⟩ : ∃ z, z = x + u := ⟨_, rfl⟩
        have hnew : ub p (i + 1) q = z := by
          show ub p i q + (if i / 8 = q ∧ p.testBit i = true then 2 ^ (7 - i % 8) else 0) = z
          rw [if_pos ⟨hq.symm, hbit⟩, ← hx, ← hu, hz]
        have hzl : z < 256 := by rw [← hnew]; exact ub_lt p (i + 1) q
        have hul : u ≤ 128 := by rw [hu]; exact Nat.pow_le_pow_right (n := 2) (by omega) (by omega : 7 - i % 8 ≤ 7)
        have hum : (u : Int) % 256 = (u : Int) := by omega
        have huw : IntKind.u8.wrap (u : Int) = (u : Int) := by rw [IntKind.wrap_u8]; exact hum
        have hzm : ((x : Int) + (u : Int)) % 256 = (z : Int) := by omega
        have hzw : IntKind.u8.wrap ((x : Int) + (u : Int)) = (z : Int) := by rw [IntKind.wrap_u8]; exact hzm
        have hct : wr.cell? ⟨go, q, none⟩ = some (.int .u8 (x : Int)) := cell_of H1.out q _ ((bR_get _ (fun j => ub_lt p i j) q (by omega)).trans (by rw [hx]))
        have hft : wr.frozen? ⟨go, q, none⟩ = false := frozen_of_row _ _ _ _ _ H1.out
        have HW : Hid ((wr.setCell ⟨go, q, none⟩ (.int .u8 (z : Int))).heap[go]? = some (.cells (bR (ub p (i + 1))) 5 (0, 0))) := hid ((block_set H1.out q _).trans (by
          rw [bR_set _ _ _ hzl]
          have e : bR (fun j => if j = q then z else ub p i j) = bR (ub p (i + 1)) := bR_congr fun j _ => by
            by_cases h : j = q
            · rw [if_pos h, h, hnew]
            · rw [if_neg h]
              show ub p i j = ub p i j + (if i / 8 = j ∧ p.testBit i = true then 2 ^ (7 - i % 8) else 0)
              rw [if_neg (fun hc => h (by rw [hq]; exact hc.1.symm)), Nat.add_zero]
          rw [e]))
        have H0' : Hid ((wr.setCell ⟨go, q, none⟩ (.int .u8 (z : Int))).heap[g]? = some (.cells (rA (pf p) 255) 3 (0, 0))) := hid ((heap_setCell_other _ _ _ _ (by simpa using HNE.out)).trans H0.out)
        have HU := hid hu
        have hlt' := hid hlt
        clear hv hbit hq hx hu hz hnew hzl hul
        go_wp2
        refine prod12_l5 i wr _ _ _ _ _ _ _ _ _ _ _ _ _ _ _ _ _ _ _ _ _ _ _ _ _ _ _ _ _ _ _ _ _ _ _ _ _ _ _ _ _ _ _ _ _ _ _ _ _ _ _ _ _ _ _ _ _ _ _ _ _ _ _ _ _ _ _ _ _ _ _ _ _ _ _ _ _ _ _ _ _ _ _ _ _ _ _ _ _ _ _ _ _ _ _ _ _ _ _ _ _ _ _ _ _ _ _ _ _ _ _ _ _ _ _ _ _ _ _ _ _ _ _ _ _ hlt'.out ?_
        intro w2 u12 u106 u107 u108 u109 u110 u111 u112 u113 u114 hw2
        subst hw2
        rw [← HU.out]
        go_wp2
        have hk := HK.out
        go_roundg (128 - i - 1)
        case measure => omega
        case rel => exact ⟨i + 1, by omega, rfl, H0'.out, HW.out, HB.out.setCell HGO.out _⟩
      · have hv : pf p i = 0 := by unfold pf; rw [if_neg hbit]
        rw [hv] at hcn
        have HW : Hid (wr.heap[go]? = some (.cells (bR (ub p (i + 1))) 5 (0, 0))) := hid (H1.out.trans (by
          have e : bR (ub p i) = bR (ub p (i + 1)) := bR_congr fun j _ => by
            show ub p i j = ub p i j + (if i / 8 = j ∧ p.testBit i = true then 2 ^ (7 - i % 8) else 0)
            rw [if_neg (fun hc => hbit hc.2), Nat.add_zero]
          rw [e]))
        clear hv hbit
        go_wp2
        have hk := HK.out
        go_roundg (128 - i - 1)
        case measure => omega
        case rel => exact ⟨i + 1, by omega, rfl, H0.out, HW.out, HB.out⟩
    · have hke : i = 128 := by omega
      subst hke
      have hxi : ¬ ((128 : Nat) : Int) < 128 := by omega
      clear hxi
      go_wp2
      exact hexit _ _ _ _ _ _ _ _ _ _ _ _ _ _ _ _ _ _ _ _ _ _ _ _ _ _ _ _ _ _ _ _ _ H1.out HB.out
end Go.Proofs.Ytojlmlmjmlbjmaa
end
section
namespace Go.Proofs.Ytojlmlmjmlbjmaa
open Go.RowKit
set_option linter.unusedVariables false
set_option linter.unusedSimpArgs false
/-- The document's product of two blocks. -/
def timesL (xs ys : List UInt8) : List UInt8 := unL (gm (pol (bf xs)) (pol (bf ys)))
theorem timesL_length (xs ys : List UInt8) : (timesL xs ys).length = 16 := unL_length _
set_option maxRecDepth 100000 in
set_option maxHeartbeats 4000000 in
theorem Times12_any (A A' : Option Addr) (xs ys : List UInt8) (n n' c c' : Nat) (w : World) (hA : Lie w w.heap.size A (bvs xs)) (hA' : Lie w w.heap.size A' (bvs ys)) (hx : xs.length = 16) (hy : ys.length = 16) (hn : n = 16) (hn' : n' = 16) :
    Calls Try.prog 16 #[.slice A n c, .slice A' n' c'] w fun e w' => ∃ v, e = .returned v ∧ OwnB w' w.heap.size v (timesL xs ys) ∧ Below w.heap.size w w' := by
  subst hn; subst hn'
  have HA := hid hA; have HA' := hid hA'; have HX := hid hx; have HY := hid hy
  have hm1 := mkI255
  have hm2 := mk16
  have a0 : Hid ((w.alloc (.cells (rA (pf 0) 255) 3)).heap[w.heap.size]? = some (.cells (rA (pf 0) 255) 3 (0, 0))) := hid (heap_alloc_new w _)
  have a1 : Hid (Below w.heap.size w (w.alloc (.cells (rA (pf 0) 255) 3))) := hid ((Below.refl _ _).alloc (Nat.le_refl _) _)
  clear hA hA' hx hy
  go_enter Try.func16, Try.ntmps16
  go_wp2
  refine prod12_l1 A A' xs ys c c' w.heap.size w _ _ _ _ _ _ _ _ _ _ _ _ _ _ _ _ _ _ _ _ _ _ _ _ _ _ _ _ _ _ _ _ _ _ _ _ _ _ _ _ _ _ _ _ _ _ _ _ _ _ _ _ _ _ _ _ _ _ _ _ _ _ _ _ _ _ _ _ _ _ _ _ _ _ _ _ _ _ _ _ _ _ _ _ _ _ _ _ _ _ _ _ _ _ _ _ _ _ _ _ _ _ _ _ _ _ _ _ _ _ _ _ _ _ _ _ _ _ _ _ _ _ _ _ _ HX.out HY.out HA.out HA'.out (Nat.le_refl _) a0.out a1.out ?_
  intro w2 u7 u14 u15 u16 u17 u18 u19 u20 u21 u22 u23 u24 u25 u26 u27 u28 u29 u30 u31 u32 u33 u34 u35 u36 u37 u38 u39 u40 u41 u42 u43 k0 k1
  have K0 := hid k0; have K1 := hid k1
  clear k0 k1 a0 a1
  go_wp2
  refine prod12_l3 w.heap.size (cm (pol (bf xs)) (pol (bf ys)) 128) w w2 _ _ _ _ _ _ _ _ _ _ _ _ _ _ _ _ _ _ _ _ _ _ _ _ _ _ _ _ _ _ _ _ _ _ _ _ _ _ _ _ _ _ _ _ _ _ _ _ _ _ _ _ _ _ _ _ _ _ _ _ _ _ _ _ _ _ _ _ _ _ _ _ _ _ _ _ _ _ _ _ _ _ _ _ _ _ _ _ _ _ _ _ _ _ _ _ _ _ _ _ _ _ _ _ _ _ _ _ _ _ _ _ _ _ _ _ _ _ _ _ _ _ _ _ _ _ (Nat.le_refl _) K0.out K1.out ?_
  intro w3 v44 v45 v46 v47 v48 v49 v50 v51 v52 v53 v54 v55 v56 v57 v58 v59 v60 v61 v62 v63 v64 v65 v66 v67 v68 v69 v70 v71 v72 v73 v74 v75 v76 v77 v78 v79 v80 v81 v82 v83 v84 v85 v86 v87 v88 v89 v90 v91 v92 v93 v94 v95 k2 k3
  rw [doc_gm (pol_lt _) (pol_lt _)] at k2
  have hlt : w.heap.size < w3.heap.size := by
    have h := Array.getElem?_eq_some_iff.1 k2
    exact h.1
  have K2 : Hid ((w3.alloc (.cells (bR fun _ => 0) 5)).heap[w.heap.size]? = some (.cells (rA (pf (gm (pol (bf xs)) (pol (bf ys)))) 255) 3 (0, 0))) := hid ((heap_alloc_old w3 _ hlt).trans k2)
  have K3 : Hid (Below w.heap.size w (w3.alloc (.cells (bR fun _ => 0) 5))) := hid (k3.alloc (Nat.le_of_lt hlt) _)
  have K4 : Hid ((w3.alloc (.cells (bR fun _ => 0) 5)).heap[w3.heap.size]? = some (.cells (bR fun _ => 0) 5 (0, 0))) := hid (heap_alloc_new w3 _)
  have HLT := hid hlt
  clear k2 k3 K0 K1 hlt
  go_wp2
  refine prod12_l4 w.heap.size w3.heap.size (gm (pol (bf xs)) (pol (bf ys))) w _ _ _ _ _ _ _ _ _ _ _ _ _ _ _ _ _ _ _ _ _ _ _ _ _ _ _ _ _ _ _ _ _ _ _ _ _ _ _ _ _ _ _ _ _ _ _ _ _ _ _ _ _ _ _ _ _ _ _ _ _ _ _ _ _ _ _ _ _ _ _ _ _ _ _ _ _ _ _ _ _ _ _ _ _ _ _ _ _ _ _ _ _ _ _ _ _ _ _ _ _ _ _ _ _ _ _ _ _ _ _ _ _ _ _ _ _ _ _ _ _ _ _ _ _ _ (Nat.le_of_lt HLT.out) (Nat.ne_of_lt HLT.out) K2.out K4.out K3.out ?_
  intro w4 x11 x12 x97 x98 x99 x100 x101 x102 x103 x104 x105 x106 x107 x108 x109 x110 x111 x112 x113 x114 x115 x116 x117 x118 x119 x120 x121 x122 x123 x124 x125 x126 k5 k6
  have K5 := hid k5; have K6 := hid k6
  clear k5 k6
  go_wp2
  go_ret
  refine ⟨_, rfl, ⟨by rw [bvs_length, timesL_length], .inr ⟨w3.heap.size, 16, bR (ub (gm (pol (bf xs)) (pol (bf ys))) 128), ?_, Nat.le_of_lt HLT.out, K5.out, by rw [timesL_length]; omega, by unfold maxLen; omega, ?_, ?_⟩⟩, K6.out⟩
  · rw [timesL_length]; rfl
  · simp [bR, blkL_length]
  · unfold bR; rw [List.take_of_length_le (by simp [blkL_length, timesL_length])]; rfl
end Go.Proofs.Ytojlmlmjmlbjmaa
end
section
namespace Go.Proofs.Ytojlmlmjmlbjmaa
open Go.RowKit
set_option linter.unusedVariables false
set_option linter.unusedSimpArgs false
set_option maxRecDepth 100000 in
set_option maxHeartbeats 4000000 in
theorem blk11_l1 {Q : Exit → Act → World → Prop} (A' Ab Aw : Option Addr) (c' cb cw g : Nat) (ky : Nat → Nat) (wb w : World) (blk : List UInt8) (t0 t3 t4 t5 t6 t10 t11 t12 t13 t14 t15 t16 t17 t18 t19 t20 t21 t22 t23 t24 t25 t26 t27 t28 t29 t30 t31 t32 t33 t34 t35 t36 t37 t38 t39 t40 t41 t42 t43 t44 t45 t46 t47 t48 t49 t50 t51 t52 t53 t54 t55 t56 t57 t58 t59 t60 t61 t62 t63 t64 t65 t66 t67 t68 t69 t70 t71 t72 t73 t74 t75 t76 t77 t78 t79 t80 t81 t82 t83 t84 t85 t86 t87 t88 t89 t90 t91 t92 t93 t94 t95 t96 t97 t98 t99 t100 t101 t102 t103 t104 t105 t106 t107 t108 t109 t110 t111 t112 t113 t114 t115 t116 t117 t118 t119 t120 t121 t122 t123 t124 t125 t126 t127 t128 t129 t130 t131 t132 t133 t134 t135 t136 t137 t138 t139 t140 t141 t142 t143 t144 t145 t146 t147 t148 t149 t150 t151 t152 t153 t154 t155 t156 t157 t158 t159 t160 t161 t162 t163 t164 t165 t166 t167 t168 t169 t170 t171 : Value) (hblk : blk.length = 16) (hA : Lie wb wb.heap.size A' (bvs blk)) (hc' : 16 ≤ c' ∧ c' ≤ 9223372036854775807) (hW : ∀ j, j < 44 → RowAt wb Aw 44 cw ky j) (hky : ∀ i, ky i < 256) (hg : wb.heap.size ≤ g) (h0 : w.heap[g]? = some (.cells (bI fun _ => 0) 3 (0, 0))) (hb : Below wb.heap.size wb w)
    (hexit : ∀ (w' : World) (u24 u25 u26 u27 u28 u29 u30 u31 u32 u33 u34 u35 u36 u37 u38 u39 u40 u41 u42 u43 u44 u45 : Value), w'.heap[g]? = some (.cells (bI fun i => bf blk i ^^^ kW ky 0 i) 3 (0, 0)) → Below wb.heap.size wb w' → Q (.exit 0) ⟨(t0 :: (.slice A' 16 c') :: (.slice Ab 256 cb) :: t3 :: t4 :: t5 :: t6 :: (.slice Aw 44 cw) :: (.slice (some ⟨g, 0, none⟩) 16 16) :: (.int .i64 16) :: t10 :: t11 :: t12 :: t13 :: t14 :: t15 :: t16 :: t17 :: t18 :: t19 :: t20 :: t21 :: t22 :: t23 :: u24 :: u25 :: u26 :: u27 :: u28 :: u29 :: u30 :: u31 :: u32 :: u33 :: u34 :: u35 :: u36 :: u37 :: u38 :: u39 :: u40 :: u41 :: u42 :: u43 :: u44 :: u45 :: t46 :: t47 :: t48 :: t49 :: t50 :: t51 :: t52 :: t53 :: t54 :: t55 :: t56 :: t57 :: t58 :: t59 :: t60 :: t61 :: t62 :: t63 :: t64 :: t65 :: t66 :: t67 :: t68 :: t69 :: t70 :: t71 :: t72 :: t73 :: t74 :: t75 :: t76 :: t77 :: t78 :: t79 :: t80 :: t81 :: t82 :: t83 :: t84 :: t85 :: t86 :: t87 :: t88 :: t89 :: t90 :: t91 :: t92 :: t93 :: t94 :: t95 :: t96 :: t97 :: t98 :: t99 :: t100 :: t101 :: t102 :: t103 :: t104 :: t105 :: t106 :: t107 :: t108 :: t109 :: t110 :: t111 :: t112 :: t113 :: t114 :: t115 :: t116 :: t117 :: t118 :: t119 :: t120 :: t121 :: t122 :: t123 :: t124 :: t125 :: t126 :: t127 :: t128 :: t129 :: t130 :: t131 :: t132 :: t133 :: t134 :: t135 :: t136 :: t137 :: t138 :: t139 :: t140 :: t141 :: t142 :: t143 :: t144 :: t145 :: t146 :: t147 :: t148 :: t149 :: t150 :: t151 :: t152 :: t153 :: t154 :: t155 :: t156 :: t157 :: t158 :: t159 :: t160 :: t161 :: t162 :: t163 :: t164 :: t165 :: t166 :: t167 :: t168 :: t169 :: t170 :: t171 :: []).toArray, []⟩ w') :
    Code.wp Try.prog (Code.loop (loopN Try.f22 0)) Q ⟨(t0 :: (.slice A' 16 c') :: (.slice Ab 256 cb) :: t3 :: t4 :: t5 :: t6 :: (.slice Aw 44 cw) :: (.slice (some ⟨g, 0, none⟩) 16 16) :: (.int .i64 0) :: t10 :: t11 :: t12 :: t13 :: t14 :: t15 :: t16 :: t17 :: t18 :: t19 :: t20 :: t21 :: t22 :: t23 :: t24 :: t25 :: t26 :: t27 :: t28 :: t29 :: t30 :: t31 :: t32 :: t33 :: t34 :: t35 :: t36 :: t37 :: t38 :: t39 :: t40 :: t41 :: t42 :: t43 :: t44 :: t45 :: t46 :: t47 :: t48 :: t49 :: t50 :: t51 :: t52 :: t53 :: t54 :: t55 :: t56 :: t57 :: t58 :: t59 :: t60 :: t61 :: t62 :: t63 :: t64 :: t65 :: t66 :: t67 :: t68 :: t69 :: t70 :: t71 :: t72 :: t73 :: t74 :: t75 :: t76 :: t77 :: t78 :: t79 :: t80 :: t81 :: t82 :: t83 :: t84 :: t85 :: t86 :: t87 :: t88 :: t89 :: t90 :: t91 :: t92 :: t93 :: t94 :: t95 :: t96 :: t97 :: t98 :: t99 :: t100 :: t101 :: t102 :: t103 :: t104 :: t105 :: t106 :: t107 :: t108 :: t109 :: t110 :: t111 :: t112 :: t113 :: t114 :: t115 :: t116 :: t117 :: t118 :: t119 :: t120 :: t121 :: t122 :: t123 :: t124 :: t125 :: t126 :: t127 :: t128 :: t129 :: t130 :: t131 :: t132 :: t133 :: t134 :: t135 :: t136 :: t137 :: t138 :: t139 :: t140 :: t141 :: t142 :: t143 :: t144 :: t145 :: t146 :: t147 :: t148 :: t149 :: t150 :: t151 :: t152 :: t153 :: t154 :: t155 :: t156 :: t157 :: t158 :: t159 :: t160 :: t161 :: t162 :: t163 :: t164 :: t165 :: t166 :: t167 :: t168 :: t169 :: t170 :: t171 :: []).toArray, []⟩ w := by
  conv => arg 2; arg 1; whnf
  have HA := hid hA; have HW := hid hW; have HBLK := hid hblk; have HG := hid hg; have HKY := hid hky
  have h0' : w.heap[g]? = some (.cells (bI fun j => if j < 0 then bf blk j ^^^ kW ky 0 j else 0) 3 (0, 0)) := h0
  clear hA hW hblk hg h0
  go_loopg [9] 16 (fun r ii wr => ∃ k : Nat, k + r = 16 ∧ ii = .int .i64 (k : Int) ∧ wr.heap[g]? = some (.cells (bI fun j => if j < k then bf blk j ^^^ kW ky 0 j else 0) 3 (0, 0)) ∧ Below wb.heap.size wb wr)
  case atStart => exact ⟨0, rfl, rfl, h0', hb⟩
  case round =>
    clear h0' hb hky
    obtain ⟨k, hk, rfl, hrow, hb⟩ := hrel
    have HK := hid hk; have HR := hid hrow; have HB := hid hb
    have hk16 : k ≤ 16 := by omega
    clear hk hrow hb
    by_cases hlt : k < 16
    · have hx : (k : Int) < 16 := by omega
      have hk0 : (0 : Int) ≤ (k : Int) := by omega
      clear hexit
      obtain ⟨gb, ob, rfl, hgb, hcell⟩ := (HA.out.below HB.out).byte (k := k) (by rw [HBLK.out]; omega)
      have hyb := bf_at blk k (by rw [HBLK.out]; omega)
      obtain ⟨y, hy⟩ : ∃ y, y = bf blk k := ⟨_, rfl⟩
      rw [← hyb, ← hy] at hcell
      have hyl : y < 256 := by rw [hy]; exact bf_lt blk k
      have hyw : IntKind.i64.wrap (y : Int) = (y : Int) := IntWalk.i64_in _ (by omega)
      obtain ⟨q, hq⟩ : ∃ q, q = k / 4 := ⟨_, rfl⟩
      obtain ⟨r, hr⟩ : ∃ r, r = k % 4 := ⟨_, rfl⟩
      obtain ⟨hq1, hq2, hqw⟩ := quo4 hq (by omega)
      obtain ⟨hr1, hr2, hrw⟩ := rem4 hr (by omega)
      have hq44 : (q : Int) < 44 := by omega
      have hq0 : (0 : Int) ≤ (q : Int) := by omega
      have hr4 : (r : Int) < 4 := by omega
      have hr0 : (0 : Int) ≤ (r : Int) := by omega
      obtain ⟨b1, A1, c1, rfl, hcw, hcw2, hb1, hc1, ⟨g1, rfl, hg1, hd1⟩, hcap1⟩ := HW.out q (by omega)
      have hc1r := (HB.out.cell (p := ⟨b1, q, none⟩) hb1).trans hc1
      have hd1r := (HB.out.cell (p := ⟨g1, r, none⟩) hg1).trans (hd1 r (by omega))
      obtain ⟨x, hxx⟩ : ∃ x, x = dwW ky q r := ⟨_, rfl⟩
      rw [← hxx] at hd1r
      have hxl : x < 256 := by rw [hxx]; exact dwW_lt HKY.out _ _
      have hxe : x = kW ky 0 k := by rw [kW_dw ky 0 k hlt, hxx, hq, hr, Nat.mul_zero, Nat.zero_add]
      have hxor := i64_xor_nat' y x (by omega) (by omega)
      obtain ⟨z, hz⟩ : ∃ z, z = y ^^^ x := ⟨_, rfl⟩
      rw [← hz] at hxor
      have hct : wr.cell? ⟨g, k, none⟩ = some (.int .i64 ((0 : Nat) : Int)) := cell_of HR.out k _ (by rw [bI_get _ k hlt, if_neg (Nat.lt_irrefl k)])
      have hft : wr.frozen? ⟨g, k, none⟩ = false := frozen_of_row _ _ _ _ _ HR.out
      have hwi : IntKind.i64.wrap ((k : Int) + 1) = ((k + 1 : Nat) : Int) := (IntWalk.i64_in _ (by omega)).trans (by omega)
      have HWr : Hid ((wr.setCell ⟨g, k, none⟩ (.int .i64 (z : Int))).heap[g]? = some (.cells (bI fun j => if j < k + 1 then bf blk j ^^^ kW ky 0 j else 0) 3 (0, 0))) := hid ((block_set HR.out k _).trans (by
        rw [bI_set _ _ _ hlt]
        have e : bI (fun q => if q = k then z else if q < k then bf blk q ^^^ kW ky 0 q else 0) = bI (fun j => if j < k + 1 then bf blk j ^^^ kW ky 0 j else 0) := bI_congr fun i _ => by
          by_cases h : i = k
          · rw [if_pos h, if_pos (by omega), hz, hy, hxe, h]
          · rw [if_neg h]
            by_cases h2 : i < k
            · rw [if_pos h2, if_pos (by omega)]
            · rw [if_neg h2, if_neg (by omega)]
        rw [e]))
      clear hy hyb hyl hq hr hxx hxl hxe hz hc1 hd1 hb1 hg1 hcap1
      go_wp2
      refine wp_region_still_tail 17 (by kernel_rfl) (by kernel_rfl) ?_
      simp only [List.take_succ_cons, List.take_zero, List.drop_succ_cons, List.drop_zero]
      repeat still_step
      refine wpStill_nil ?_
      change wpList _ _ _ _ _ wr.drew
      go_wp2
      have hk := HK.out
      go_roundg (16 - k - 1)
      case measure => omega
      case rel => exact ⟨k + 1, by omega, rfl, HWr.out, still_drew (HB.out.setCell HG.out _)⟩
    · have hke : k = 16 := by omega
      have HRe : Hid (wr.heap[g]? = some (.cells (bI fun i => bf blk i ^^^ kW ky 0 i) 3 (0, 0))) := hid (HR.out.trans (by
        have e : bI (fun j => if j < k then bf blk j ^^^ kW ky 0 j else 0) = bI (fun i => bf blk i ^^^ kW ky 0 i) := bI_congr fun i hi => if_pos (by omega)
        rw [e]))
      subst hke
      have hx : ¬ ((16 : Nat) : Int) < 16 := by omega
      clear hx
      go_wp2
      exact hexit _ _ _ _ _ _ _ _ _ _ _ _ _ _ _ _ _ _ _ _ _ _ _ HRe.out HB.out
end Go.Proofs.Ytojlmlmjmlbjmaa
end
