/-
  Texts of this claim in one file: Law15a, Law15b, Law15c, Law15d, Law15e.
-/
import Derived.Test.YtmipocpajglbaaaPk3
import Derived.Test.YtmipocpajglbaaaPk5
import Derived.Test.YtmipocpajglbaaaPk7
import Derived.Test.YtmipocpajglbaaaPk9
section
namespace Go.Proofs.Ytmipocpajglbaaa
open Go Go.RowKit
set_option linter.unusedVariables false
set_option linter.unusedSimpArgs false
/-- A complex number; one and a bool. -/
def RetC (W : World) (X Y : Int) (e : Ending) (w' : World) : Prop := ∃ a b, e = .returned (.complex .f64 a b) ∧ Cz a b X Y ∧ Below W.heap.size W w'
def RetCB (W : World) (X Y : Int) (k : Bool) (e : Ending) (w' : World) : Prop := ∃ a b, e = .returned (.tuple #[.complex .f64 a b, .bool k]) ∧ Cz a b X Y ∧ Below W.heap.size W w'
def strX (l : Int) : Int := if upB l = true then 0 else strZ l
def strY (l : Int) : Int := if upB l = true then strZ l else 0
def PlStride : Prop := ∀ (l : Int) (W : World), I64 l → Calls Try.prog 11 #[.int .i64 l] W (RetC W (strX l) (strY l))
def PlPlace : Prop := ∀ (x n : Int) (W : World), I64 x → I64 n → Calls Try.prog 13 #[.int .i64 x, .int .i64 n] W (RetCB W (placeZ x n).1 (placeZ x n).2 (inB x n))
def PlAt : Prop := ∀ (a b : Nat) (X Y n : Int) (W : World), Cz a b X Y → Lt20 X → Lt20 Y → I64 n → Calls Try.prog 14 #[.complex .f64 a b, .int .i64 n] W (RetIB W (atZ (X, Y) n) (atB (X, Y) n))
def PlOff : Prop := ∀ (a b : Nat) (X n : Int) (W : World), Fz a X → Lt20 X → b < 2 ^ 64 → (∀ Y, ¬ Whl b Y) → (n ≤ 64 ∨ 65536 < n) → I64 n → Calls Try.prog 14 #[.complex .f64 a b, .int .i64 n] W (RetIB W 0 false)
def PlGap : Prop := ∀ (x y n : Int) (W : World), I64 x → I64 y → I64 n → Calls Try.prog 16 #[.int .i64 x, .int .i64 y, .int .i64 n] W (RetIB W (gpZ x y n) (inB x n && inB y n))
def PlTurn : Prop := ∀ (x n q : Int) (W : World), I64 x → I64 n → I64 q → Calls Try.prog 20 #[.int .i64 x, .int .i64 n, .int .i64 q] W (RetIB W (trnZ x n q) (trnB x n q))
def PlFar : Prop := ∀ (x : Int) (A : Option Addr) (c : Nat) (l : List Int) (n : Int) (W : World), I64 x → I64 n → (∀ y ∈ l, I64 y) → Sq W W.heap.size A c (izs l) → l.length ≤ 30 →
  Calls Try.prog 18 #[.int .i64 x, .slice A l.length c, .int .i64 n] W (RetIB W (farZ x l n) (farI x l n).isSome)
theorem ord_eq {a c : Nat} {x x' : Int} (h : Fz a x) (h' : Fz c x') (he : x = x') : FloatKind.f64.format.order a c = some .eq := by
  have := fz_order h h'
  rw [he, Int.compare_eq_eq.2 rfl] at this
  exact this
theorem ord_ne {a c : Nat} {x x' : Int} (h : Fz a x) (h' : Fz c x') (he : ¬ x = x') : ¬ FloatKind.f64.format.order a c = some .eq := by
  have := fz_order h h'
  intro hc
  rw [show FloatKind.f64.format.order a c = Ieee.double.order a c from rfl, this] at hc
  injection hc with hc
  exact he (Int.compare_eq_eq.1 hc)
abbrev mOne : Nat := 13830554455654793216
theorem fz_mone : Fz mOne (-1) := ⟨true, by decide +kernel, fun _ => by decide, by decide⟩
theorem fz_nought : Fz 0 0 := ⟨false, by decide +kernel, fun h => absurd rfl h, by decide⟩
theorem ex_p0 : placeZ 0 4 = (-1, -1) := (placeZ_nd (q := 0) (l := 0) (k := 2) (by decide) (by decide)).trans (by decide)
theorem ex_p1 : placeZ 1 4 = (0, -1) := (placeZ_nd (q := 0) (l := 1) (k := 1) (by decide) (by decide)).trans (by decide)
theorem ex_i0 : inB 0 4 = true := by decide
theorem ex_i1 : inB 1 4 = true := by decide
def Alive15 : Prop := ∀ W : World, Calls Try.prog 9 #[] W (RetB W true)
theorem alive15_any (hP : PlPlace) : Alive15 := fun w => by
  have H0 := hid (hP 0 4 w (i64_small (by decide) (by decide)) (i64_small (by decide) (by decide)))
  have H1 := hid (fun W => hP 1 4 W (i64_small (by decide) (by decide)) (i64_small (by decide) (by decide)))
  rw [ex_p0, ex_i0] at H0
  rw [ex_p1, ex_i1] at H1
  clear hP
  go_enter Try.func9, Try.ntmps9
  go_wp2_with fail
  refine H0.out.mono ?_
  rintro e w1 ⟨a, b, rfl, hz, hb⟩
  have HB1 := hid hb
  have e1 := ord_eq hz.1 fz_mone rfl; have e2 := ord_eq hz.2 fz_mone rfl
  clear hz hb H0
  go_wp2_with fail
  refine (H1.out _).mono ?_
  rintro e w2 ⟨c, d, rfl, hz, hb⟩
  have HB2 := hid (HB1.out.trans (hb.mono HB1.out.size))
  have e3 := ord_eq hz.1 fz_nought rfl; have e4 := ord_eq hz.2 fz_mone rfl
  clear hz hb H1 HB1
  go_wp2
  go_ret
  exact ⟨by simp [e3, e4], HB2.out⟩
end Go.Proofs.Ytmipocpajglbaaa
end
section
namespace Go.Proofs.Ytmipocpajglbaaa
open Go Go.RowKit
set_option linter.unusedVariables false
set_option linter.unusedSimpArgs false
theorem strZ_le (l : Int) : Lt20 (strZ l) := by
  unfold strZ Lt20
  split
  · have := strN_le (l := l.toNat) (by omega); omega
  · omega
theorem lt20_small {x : Int} (h : -2048 ≤ x ∧ x ≤ 2048) : Lt20 x := ⟨by omega, by omega⟩
set_option maxHeartbeats 2000000 in
theorem places15_any (hS : PlStride) (hP : PlPlace) (hA : Alive15) (x n l : Int) (w : World) (hx : I64 x) (hn : I64 n) (hl : I64 l) : Calls Try.prog 3 #[.int .i64 x, .int .i64 n, .int .i64 l] w (RetB w true) := by
  have HA := hid hA
  have H1 := hid (fun W => StrideR15 l W)
  have H2 := hid (fun W => hS l W hl)
  have H3 := hid (fun W => PlaceR15 x n W)
  have H4 := hid (fun W => hP x n W hx hn)
  have hsl := strZ_le l
  have hpl := placeZ_le x n
  unfold strX strY at H2
  obtain ⟨s, hs⟩ : ∃ s, s = strZ l := ⟨_, rfl⟩
  obtain ⟨u, hu⟩ : ∃ s, s = upB l := ⟨_, rfl⟩
  obtain ⟨X, hX⟩ : ∃ s, s = (placeZ x n).1 := ⟨_, rfl⟩
  obtain ⟨Y, hY⟩ : ∃ s, s = (placeZ x n).2 := ⟨_, rfl⟩
  obtain ⟨k, hk⟩ : ∃ s, s = inB x n := ⟨_, rfl⟩
  rw [← hs, ← hu] at H1 H2
  rw [← hs] at hsl
  rw [← hX, ← hY, ← hk] at H3 H4
  rw [← hX, ← hY] at hpl
  have F1 := hid (fz_nat s hsl)
  have F2 := hid (fz_nat X (lt20_small ⟨hpl.1, hpl.2.1⟩)); have F3 := hid (fz_nat Y (lt20_small ⟨hpl.2.2.1, hpl.2.2.2⟩))
  clear hs hu hX hY hk hS hP hA hx hn hl hsl hpl
  go_enter Try.func3, Try.ntmps3
  go_wp2_with fail
  refine (HA.out _).mono ?_
  rintro e w1 ⟨rfl, hb⟩
  have HB1 := hid hb
  clear hb HA
  go_wp2_with fail
  refine (H1.out _).mono ?_
  rintro e w2 ⟨rfl, hb⟩
  have HB2 := hid (HB1.out.trans (hb.mono HB1.out.size))
  clear hb H1 HB1
  go_wp2_with fail
  refine (H2.out _).mono ?_
  rintro e w3 ⟨a, b, rfl, hz, hb⟩
  have HB3 := hid (HB2.out.trans (hb.mono HB2.out.size))
  have HZ := hid hz
  clear hb hz H2 HB2
  cases u with
  | false =>
    have HZ2 : Hid (Cz a b s 0) := HZ
    have e1 := ord_eq HZ2.out.1 F1.out rfl; have e2 := ord_eq HZ2.out.2 fz_nought rfl
    clear HZ HZ2
    go_wp2_with fail
    refine (H3.out _).mono ?_
    rintro e w4 ⟨rfl, hb⟩
    have hZ := hid (heap_alloc_new w4 (.cells (spA 0 0) TS))
    obtain ⟨c1, c2⟩ := sp_cells w4 X Y
    have HC := hid (And.intro c1 c2)
    have HB4 : Hid (Below w.heap.size w ((w4.alloc (.cells (spA 0 0) TS)).setRow w4.heap.size (spA X Y))) := hid (HB3.out.trans ((hb.trans ((sp_below w4 (spA X Y)).mono hb.size)).mono HB3.out.size))
    have hlt : w4.heap.size < ((w4.alloc (.cells (spA 0 0) TS)).setRow w4.heap.size (spA X Y)).heap.size := by simp
    have HLT := hid hlt
    clear hb H3 HB3 e1 e2 c1 c2 hlt
    go_wp2_with (first | (with_reducible refine wpList_store_row rfl TS (.tmp 10) _ rfl w4.heap.size (spA X Y) rfl rfl TS (spA 0 0) hZ.out infoSp spA_size spA_one ?_))
    refine (H4.out _).mono ?_
    rintro e w5 ⟨c, d, rfl, hz, hb⟩
    have e1 := ord_eq hz.1 F2.out rfl; have e2 := ord_eq hz.2 F3.out rfl
    have c1 := (hb.cell (p := ⟨w4.heap.size, 0, none⟩) HLT.out).trans HC.out.1
    have c2 := (hb.cell (p := ⟨w4.heap.size, 1, none⟩) HLT.out).trans HC.out.2
    have HB5 := hid (HB4.out.trans (hb.mono HB4.out.size))
    clear hb hz HB4 HC H4 HLT hZ
    cases k with
    | false =>
      go_wp2
      go_ret
      exact ⟨by first | rfl | simp [e1, e2], HB5.out⟩
    | true =>
      go_wp2
      go_ret
      exact ⟨by first | rfl | simp [e1, e2], HB5.out⟩
  | true =>
    have HZ2 : Hid (Cz a b 0 s) := HZ
    have e1 := ord_eq HZ2.out.1 fz_nought rfl; have e2 := ord_eq HZ2.out.2 F1.out rfl
    clear HZ HZ2
    go_wp2_with fail
    refine (H3.out _).mono ?_
    rintro e w4 ⟨rfl, hb⟩
    have hZ := hid (heap_alloc_new w4 (.cells (spA 0 0) TS))
    obtain ⟨c1, c2⟩ := sp_cells w4 X Y
    have HC := hid (And.intro c1 c2)
    have HB4 : Hid (Below w.heap.size w ((w4.alloc (.cells (spA 0 0) TS)).setRow w4.heap.size (spA X Y))) := hid (HB3.out.trans ((hb.trans ((sp_below w4 (spA X Y)).mono hb.size)).mono HB3.out.size))
    have hlt : w4.heap.size < ((w4.alloc (.cells (spA 0 0) TS)).setRow w4.heap.size (spA X Y)).heap.size := by simp
    have HLT := hid hlt
    clear hb H3 HB3 e1 e2 c1 c2 hlt
    go_wp2_with (first | (with_reducible refine wpList_store_row rfl TS (.tmp 10) _ rfl w4.heap.size (spA X Y) rfl rfl TS (spA 0 0) hZ.out infoSp spA_size spA_one ?_))
    refine (H4.out _).mono ?_
    rintro e w5 ⟨c, d, rfl, hz, hb⟩
    have e1 := ord_eq hz.1 F2.out rfl; have e2 := ord_eq hz.2 F3.out rfl
    have c1 := (hb.cell (p := ⟨w4.heap.size, 0, none⟩) HLT.out).trans HC.out.1
    have c2 := (hb.cell (p := ⟨w4.heap.size, 1, none⟩) HLT.out).trans HC.out.2
    have HB5 := hid (HB4.out.trans (hb.mono HB4.out.size))
    clear hb hz HB4 HC H4 HLT hZ
    cases k with
    | false =>
      go_wp2
      go_ret
      exact ⟨by first | rfl | simp [e1, e2], HB5.out⟩
    | true =>
      go_wp2
      go_ret
      exact ⟨by first | rfl | simp [e1, e2], HB5.out⟩
end Go.Proofs.Ytmipocpajglbaaa
end
section
namespace Go.Proofs.Ytmipocpajglbaaa
open Go Go.RowKit
set_option linter.unusedVariables false
set_option linter.unusedSimpArgs false
set_option maxHeartbeats 2000000 in
theorem gaps15_any (hG : PlGap) (hF : PlFar) (hA : Alive15) (x : Int) (A : Option Addr) (c : Nat) (l : List Int) (n : Int) (w : World) (hx : I64 x) (hn : I64 n) (hl : ∀ y ∈ l, I64 y) (hL : Sq w w.heap.size A c (izs l)) :
    Calls Try.prog 5 #[.int .i64 x, .slice A l.length c, .int .i64 n] w (RetB w true) := by
  have HA := hid hA
  have HB0 : Hid (Below w.heap.size w w) := hid (Below.refl _ _)
  go_enter Try.func5, Try.ntmps5
  go_wp2_with fail
  refine (HA.out _).mono ?_
  rintro e w1 ⟨rfl, hb⟩
  have HB1 : Hid (Below w.heap.size w w1) := hid (HB0.out.trans (hb.mono HB0.out.size))
  clear hb HB0
  by_cases hlen : (30 : Int) < (l.length : Int)
  · clear hG hF hA hx hn hl hL
    go_wp2
    go_ret
    exact ⟨rfl, HB1.out⟩
  · have HM : Hid (l.length ≤ 30) := hid (by omega)
    have HG : Hid (∀ y, y ∈ l → ∀ W, Calls Try.prog 16 #[.int .i64 x, .int .i64 y, .int .i64 n] W (RetIB W (gpZ x y n) (inB x n && inB y n))) := hid fun y hy W => hG x y n W hx (hl y hy) hn
    have HR : Hid (∀ y W, Calls Try.prog 17 #[.int .i64 x, .int .i64 y, .int .i64 n] W (RetIB W (gpZ x y n) (inB x n && inB y n))) := hid fun y W => GapR15 x y n W
    have HF : Hid (∀ W, Sq W W.heap.size A c (izs l) → Calls Try.prog 18 #[.int .i64 x, .slice A l.length c, .int .i64 n] W (RetIB W (farZ x l n) (farI x l n).isSome)) := hid fun W h => hF x A c l n W hx hn hl h (by have := HM.out; omega)
    have HFR : Hid (∀ W, Sq W W.heap.size A c (izs l) → Calls Try.prog 19 #[.int .i64 x, .slice A l.length c, .int .i64 n] W (RetIB W (farZ x l n) (farI x l n).isSome)) := hid fun W h => Far15_any x n A c l W h.lie (by have := HM.out; omega)
    have HL := hid hL
    clear hG hF hA hx hn hl hL HA
    go_wp2
    go_loopg [7] l.length (fun r i wr => ∃ j : Nat, j + r = l.length ∧ i = .int .i64 (j : Int) ∧ Below w.heap.size w wr)
    case atStart => exact ⟨0, by omega, rfl, HB1.out⟩
    case round =>
      clear HB1
      obtain ⟨j, hj, rfl, hb⟩ := hrel
      have HB1 := hid hb; have HJ := hid hj
      clear hb
      by_cases hlt : j < l.length
      · have hji : (j : Int) < (l.length : Int) := by omega
        have hj0 : (0 : Int) ≤ (j : Int) := by omega
        have hwj : wrap64 ((j : Int) + 1) = (j : Int) + 1 := wrap64_in (by omega) (by have := HM.out; omega)
        obtain ⟨b, o, hAe, hbl, hc⟩ := (HL.out.lie.below HB1.out).numZ hlt
        have HGj := hid (HG.out l[j] (List.getElem_mem hlt))
        obtain ⟨y, hy⟩ : ∃ y, y = l[j] := ⟨_, rfl⟩
        rw [← hy] at hc HGj
        have HRj := hid (HR.out y)
        obtain ⟨k, hk⟩ : ∃ t, t = (inB x n && inB y n) := ⟨_, rfl⟩
        obtain ⟨g, hg⟩ : ∃ t, t = gpZ x y n := ⟨_, rfl⟩
        rw [← hk, ← hg] at HGj HRj
        have HLT := hid hlt
        have HL2 := hid (HL.out.lie)
        clear hk hg hy hj hlt
        have hAe2 := hid hAe
        subst hAe
        go_wp2_with fail
        refine (HGj.out _).mono ?_
        rintro e w2 ⟨rfl, hb⟩
        have hc2 := (hb.cell (p := ⟨b, o + j, none⟩) (Nat.lt_of_lt_of_le hbl HB1.out.size)).trans hc
        have HB2 : Hid (Below w.heap.size w w2) := hid (HB1.out.trans (hb.mono HB1.out.size))
        clear hb HB1 hc HGj
        go_wp2_with fail
        refine (HRj.out _).mono ?_
        rintro e w3 ⟨rfl, hb⟩
        have HB3 : Hid (Below w.heap.size w w3) := hid (HB2.out.trans (hb.mono HB2.out.size))
        clear hb HB2 hc2 HRj
        cases k with
        | false =>
          go_wp2
          have hj := HJ.out; have hlt := HLT.out
          go_roundg (l.length - (j + 1))
          case measure => clear hwj; omega
          case rel => exact ⟨j + 1, by clear hwj; omega, by first | rfl | (rw [hwj]; rfl), HB3.out⟩
        | true =>
          go_wp2
          have hj := HJ.out; have hlt := HLT.out
          go_roundg (l.length - (j + 1))
          case measure => clear hwj; omega
          case rel => exact ⟨j + 1, by clear hwj; omega, by first | rfl | (rw [hwj]; rfl), HB3.out⟩
      · have hge : ¬ (j : Int) < (l.length : Int) := by omega
        have HS := hid ((HL.out.below HB1.out).more HB1.out.size)
        have HF1 := hid (HF.out wr HS.out)
        have HF2 : Hid (∀ W, Below wr.heap.size wr W → Calls Try.prog 19 #[.int .i64 x, .slice A l.length c, .int .i64 n] W (RetIB W (farZ x l n) (farI x l n).isSome)) := hid fun W h => HFR.out W ((HS.out.below h).more h.size)
        obtain ⟨z, hz⟩ : ∃ t, t = farZ x l n := ⟨_, rfl⟩
        obtain ⟨k, hk⟩ : ∃ t, t = (farI x l n).isSome := ⟨_, rfl⟩
        rw [← hz, ← hk] at HF1 HF2
        clear hz hk HF HFR HS HL hj hlt HG HR
        go_wp2_with fail
        refine HF1.out.mono ?_
        rintro e w2 ⟨rfl, hb⟩
        have HB2 : Hid (Below w.heap.size w w2) := hid (HB1.out.trans (hb.mono HB1.out.size))
        have HF3 := hid (HF2.out w2 hb)
        clear hb HB1 HF1 HF2
        go_wp2_with fail
        refine HF3.out.mono ?_
        rintro e w3 ⟨rfl, hb⟩
        have HB3 : Hid (Below w.heap.size w w3) := hid (HB2.out.trans (hb.mono HB2.out.size))
        clear hb HB2 HF3
        cases k with
        | false =>
          go_wp2
          go_ret
          exact ⟨by first | rfl | simp, HB3.out⟩
        | true =>
          go_wp2
          go_ret
          exact ⟨by first | rfl | simp, HB3.out⟩
set_option maxHeartbeats 2000000 in
theorem turns15_any (hT : PlTurn) (hA : Alive15) (x n q : Int) (w : World) (hx : I64 x) (hn : I64 n) (hq : I64 q) :
    Calls Try.prog 6 #[.int .i64 x, .int .i64 n, .int .i64 q] w (RetB w true) := by
  have HA := hid hA
  have HB0 : Hid (Below w.heap.size w w) := hid (Below.refl _ _)
  go_enter Try.func6, Try.ntmps6
  go_wp2_with fail
  refine (HA.out _).mono ?_
  rintro e w1 ⟨rfl, hb⟩
  have HB1 : Hid (Below w.heap.size w w1) := hid (HB0.out.trans (hb.mono HB0.out.size))
  clear hb HB0
  have HT := hid (fun W => hT x n q W hx hn hq)
  have HP := hid (fun W => PlaceR15 x n W)
  have hle := placeZ_le x n
  have HR := hid (fun W => Turned15_any (placeZ x n).1 (placeZ x n).2 q W hle)
  have HAt := hid (fun X Y W => At15_any X Y n W)
  have HZ : Hid (trnZ x n q = if inB x n = true then atZ (rotN (q % 4).toNat (placeZ x n)) n else 0) := hid rfl
  have HZB : Hid (trnB x n q = (inB x n && atB (rotN (q % 4).toNat (placeZ x n)) n)) := hid rfl
  obtain ⟨X, hX⟩ : ∃ s, s = (placeZ x n).1 := ⟨_, rfl⟩
  obtain ⟨Y, hY⟩ : ∃ s, s = (placeZ x n).2 := ⟨_, rfl⟩
  have hXY : placeZ x n = (X, Y) := by rw [hX, hY]
  rw [hXY] at HZ HZB HR HP
  obtain ⟨k, hk⟩ : ∃ s, s = inB x n := ⟨_, rfl⟩
  rw [← hk] at HZ HZB HP
  obtain ⟨R, hR⟩ : ∃ s, s = rotN (q % 4).toNat (X, Y) := ⟨_, rfl⟩
  have HR2 : Hid (∀ W, Calls Try.prog 21 #[.agg (spA X Y), .int .i64 q] W fun e w' => e = .returned (.agg (spA R.1 R.2)) ∧ Below W.heap.size W w') := hid (by rw [hR]; exact HR.out)
  rw [← hR] at HZ HZB
  have HAt2 := hid (HAt.out R.1 R.2)
  rw [show (R.1, R.2) = R from rfl] at HAt2
  obtain ⟨R1, hR1⟩ : ∃ s, s = R.1 := ⟨_, rfl⟩
  obtain ⟨R2, hR2⟩ : ∃ s, s = R.2 := ⟨_, rfl⟩
  rw [← hR1, ← hR2] at HAt2 HR2
  obtain ⟨z, hz⟩ : ∃ s, s = atZ R n := ⟨_, rfl⟩
  obtain ⟨zb, hzb⟩ : ∃ s, s = atB R n := ⟨_, rfl⟩
  rw [← hz] at HZ HAt2
  rw [← hzb] at HZB HAt2
  rw [HZ.out, HZB.out] at HT
  clear hT hA hx hn hq hle HR HAt HZ HZB hX hY hXY hk hR hR1 hR2 hz hzb HA
  have hcs : (64 < n ∧ n ≤ 65536) ∨ (64 < n ∧ ¬ n ≤ 65536) ∨ ¬ 64 < n := by omega
  rcases hcs with ⟨h1, h2⟩ | hrest
  · go_wp2
    go_ret
    exact ⟨rfl, HB1.out⟩
  · rcases hrest with ⟨h1, h2⟩ | h1
    · skip
      cases k with
      | false =>
        go_wp2_with fail
        refine (HT.out _).mono ?_
        rintro e w2 ⟨rfl, hb⟩
        have HB2 : Hid (Below w.heap.size w w2) := hid (HB1.out.trans (hb.mono HB1.out.size))
        clear hb HB1 HT
        go_wp2_with fail
        refine (HP.out _).mono ?_
        rintro e w3 ⟨rfl, hb⟩
        have hZ := hid (heap_alloc_new w3 (.cells (spA 0 0) TS))
        have HROW := hid (setRow_heap _ w3.heap.size (spA 0 0) (spA X Y) TS (0, 0) hZ.out)
        have HB3 : Hid (Below w.heap.size w ((w3.alloc (.cells (spA 0 0) TS)).setRow w3.heap.size (spA X Y))) := hid (HB2.out.trans ((hb.trans ((sp_below w3 (spA X Y)).mono hb.size)).mono HB2.out.size))
        clear hb HB2 HP
        go_wp2_with (first | (with_reducible refine wpList_store_row rfl TS (.tmp 9) _ rfl w3.heap.size (spA X Y) rfl rfl TS (spA 0 0) hZ.out infoSp spA_size spA_one ?_))
        go_ret
        exact ⟨rfl, HB3.out⟩
      | true =>
        go_wp2_with fail
        refine (HT.out _).mono ?_
        rintro e w2 ⟨rfl, hb⟩
        have HB2 : Hid (Below w.heap.size w w2) := hid (HB1.out.trans (hb.mono HB1.out.size))
        clear hb HB1 HT
        go_wp2_with fail
        refine (HP.out _).mono ?_
        rintro e w3 ⟨rfl, hb⟩
        have hZ := hid (heap_alloc_new w3 (.cells (spA 0 0) TS))
        have HROW := hid (setRow_heap _ w3.heap.size (spA 0 0) (spA X Y) TS (0, 0) hZ.out)
        have HB3 : Hid (Below w.heap.size w ((w3.alloc (.cells (spA 0 0) TS)).setRow w3.heap.size (spA X Y))) := hid (HB2.out.trans ((hb.trans ((sp_below w3 (spA X Y)).mono hb.size)).mono HB2.out.size))
        clear hb HB2 HP
        go_wp2_with (first | (with_reducible refine wpList_store_row rfl TS (.tmp 9) _ rfl w3.heap.size (spA X Y) rfl rfl TS (spA 0 0) hZ.out infoSp spA_size spA_one ?_) | (with_reducible refine wpList_load_row rfl TS (.tmp 9) rfl w3.heap.size rfl TS (spA X Y) (0, 0) _ HROW.out Try.underlying29 rfl infoSp ?_))
        refine (HR2.out _).mono ?_
        rintro e w4 ⟨rfl, hb⟩
        have HB4 : Hid (Below w.heap.size w w4) := hid (HB3.out.trans (hb.mono HB3.out.size))
        clear hb HB3 HR2 HROW hZ
        go_wp2_with fail
        refine (HAt2.out _).mono ?_
        rintro e w5 ⟨rfl, hb⟩
        have HB5 : Hid (Below w.heap.size w w5) := hid (HB4.out.trans (hb.mono HB4.out.size))
        clear hb HB4 HAt2
        cases zb with
        | false =>
          go_wp2
          go_ret
          exact ⟨by first | rfl | simp, HB5.out⟩
        | true =>
          go_wp2
          go_ret
          exact ⟨by first | rfl | simp, HB5.out⟩
    · skip
      cases k with
      | false =>
        go_wp2_with fail
        refine (HT.out _).mono ?_
        rintro e w2 ⟨rfl, hb⟩
        have HB2 : Hid (Below w.heap.size w w2) := hid (HB1.out.trans (hb.mono HB1.out.size))
        clear hb HB1 HT
        go_wp2_with fail
        refine (HP.out _).mono ?_
        rintro e w3 ⟨rfl, hb⟩
        have hZ := hid (heap_alloc_new w3 (.cells (spA 0 0) TS))
        have HROW := hid (setRow_heap _ w3.heap.size (spA 0 0) (spA X Y) TS (0, 0) hZ.out)
        have HB3 : Hid (Below w.heap.size w ((w3.alloc (.cells (spA 0 0) TS)).setRow w3.heap.size (spA X Y))) := hid (HB2.out.trans ((hb.trans ((sp_below w3 (spA X Y)).mono hb.size)).mono HB2.out.size))
        clear hb HB2 HP
        go_wp2_with (first | (with_reducible refine wpList_store_row rfl TS (.tmp 9) _ rfl w3.heap.size (spA X Y) rfl rfl TS (spA 0 0) hZ.out infoSp spA_size spA_one ?_))
        go_ret
        exact ⟨rfl, HB3.out⟩
      | true =>
        go_wp2_with fail
        refine (HT.out _).mono ?_
        rintro e w2 ⟨rfl, hb⟩
        have HB2 : Hid (Below w.heap.size w w2) := hid (HB1.out.trans (hb.mono HB1.out.size))
        clear hb HB1 HT
        go_wp2_with fail
        refine (HP.out _).mono ?_
        rintro e w3 ⟨rfl, hb⟩
        have hZ := hid (heap_alloc_new w3 (.cells (spA 0 0) TS))
        have HROW := hid (setRow_heap _ w3.heap.size (spA 0 0) (spA X Y) TS (0, 0) hZ.out)
        have HB3 : Hid (Below w.heap.size w ((w3.alloc (.cells (spA 0 0) TS)).setRow w3.heap.size (spA X Y))) := hid (HB2.out.trans ((hb.trans ((sp_below w3 (spA X Y)).mono hb.size)).mono HB2.out.size))
        clear hb HB2 HP
        go_wp2_with (first | (with_reducible refine wpList_store_row rfl TS (.tmp 9) _ rfl w3.heap.size (spA X Y) rfl rfl TS (spA 0 0) hZ.out infoSp spA_size spA_one ?_) | (with_reducible refine wpList_load_row rfl TS (.tmp 9) rfl w3.heap.size rfl TS (spA X Y) (0, 0) _ HROW.out Try.underlying29 rfl infoSp ?_))
        refine (HR2.out _).mono ?_
        rintro e w4 ⟨rfl, hb⟩
        have HB4 : Hid (Below w.heap.size w w4) := hid (HB3.out.trans (hb.mono HB3.out.size))
        clear hb HB3 HR2 HROW hZ
        go_wp2_with fail
        refine (HAt2.out _).mono ?_
        rintro e w5 ⟨rfl, hb⟩
        have HB5 : Hid (Below w.heap.size w w5) := hid (HB4.out.trans (hb.mono HB4.out.size))
        clear hb HB4 HAt2
        cases zb with
        | false =>
          go_wp2
          go_ret
          exact ⟨by first | rfl | simp, HB5.out⟩
        | true =>
          go_wp2
          go_ret
          exact ⟨by first | rfl | simp, HB5.out⟩
end Go.Proofs.Ytmipocpajglbaaa
end
section
namespace Go.Proofs.Ytmipocpajglbaaa
open Go Go.RowKit
set_option linter.unusedVariables false
set_option linter.unusedSimpArgs false
theorem atZ_place {x n : Int} (h : inB x n = true) : atZ (placeZ x n) n = x ∧ atB (placeZ x n) n = true := by
  obtain ⟨q, l, k, hq, hk, rfl, rfl⟩ := inB_iff.1 h
  rw [placeZ_nd hq hk]
  exact atZ_node hq hk
set_option maxHeartbeats 2000000 in
theorem back15_any (hP : PlPlace) (hAt : PlAt) (hG : PlGap) (hA : Alive15) (x y n : Int) (w : World) (hx : I64 x) (hy : I64 y) (hn : I64 n) :
    Calls Try.prog 7 #[.int .i64 x, .int .i64 y, .int .i64 n] w (RetB w true) := by
  have HA := hid hA
  have HX := hid (fun W => hP x n W hx hn)
  have HY := hid (fun W => hP y n W hy hn)
  have HF := hid (fun W => FitsR n W)
  have HAT : Hid (∀ a b W, Cz a b (placeZ x n).1 (placeZ x n).2 → Calls Try.prog 14 #[.complex .f64 a b, .int .i64 n] W (RetIB W (atZ (placeZ x n) n) (atB (placeZ x n) n))) := hid fun a b W h => by
    have hl := placeZ_le x n
    exact hAt a b _ _ n W h (lt20_small ⟨hl.1, hl.2.1⟩) (lt20_small ⟨hl.2.2.1, hl.2.2.2⟩) hn
  have HG := hid (fun W => hG x y n W hx hy hn)
  clear hP hAt hG hA hx hy hn
  have HB0 : Hid (Below w.heap.size w w) := hid (Below.refl _ _)
  by_cases hf : fitB n = true
  · have hb : 1 ≤ n ∧ n ≤ 65536 := by
      obtain ⟨j, h1, rfl⟩ := (fitB_iff n).1 hf
      have := pow_le16 h1
      have := Nat.one_le_two_pow (n := j)
      omega
    rw [hf] at HF
    have hw1 : wrap64 (2 * n) = 2 * n := wrap64_in (by omega) (by omega)
    have hw2 : wrap64 (2 * n - 2) = 2 * n - 2 := wrap64_in (by omega) (by omega)
    have hIX : inB x n = (decide (0 ≤ x) && decide (x ≤ 2 * n - 2)) := by unfold inB; rw [hf, Bool.true_and]
    clear hb hf
    by_cases h0 : 0 ≤ x
    · by_cases h1 : x ≤ 2 * n - 2
      · rw [decide_eq_true h0, decide_eq_true h1] at hIX
        have hix : inB x n = true := hIX
        obtain ⟨t1, t2⟩ := atZ_place hix
        rw [t1, t2] at HAT
        have hgz : inB y n = true → (gpZ x y n = 0 ↔ x = y) := gap_zero hix
        have hpj : inB y n = true → placeZ x n = placeZ y n → x = y := placeZ_inj hix
        rw [hix] at HX HG
        obtain ⟨iy, hiy⟩ : ∃ s, s = inB y n := ⟨_, rfl⟩
        rw [← hiy] at HY HG hgz hpj
        obtain ⟨g, hg⟩ : ∃ s, s = gpZ x y n := ⟨_, rfl⟩
        rw [← hg] at HG hgz
        have HGZ := hid hgz; have HPJ := hid hpj
        clear t1 t2 hIX hix hiy hg hgz hpj
        go_enter Try.func7, Try.ntmps7
        go_wp2_with fail
        refine (HA.out _).mono ?_
        rintro e w1 ⟨rfl, hb⟩
        have HB1 : Hid (Below w.heap.size w w1) := hid (HB0.out.trans (hb.mono HB0.out.size))
        clear hb HB0 
        go_wp2_with fail
        refine (HX.out _).mono ?_
        rintro e w2 ⟨a, b, rfl, hz, hb⟩
        have HB2 : Hid (Below w.heap.size w w2) := hid (HB1.out.trans (hb.mono HB1.out.size))
        have ZX := hid hz
        clear hb HB1 hz HX
        go_wp2_with fail
        refine (HY.out _).mono ?_
        rintro e w3 ⟨c, d, rfl, hz, hb⟩
        have HB3 : Hid (Below w.heap.size w w3) := hid (HB2.out.trans (hb.mono HB2.out.size))
        have ZY := hid hz
        clear hb HB2 hz HY
        go_wp2_with fail
        refine (HF.out _).mono ?_
        rintro e w4 ⟨rfl, hb⟩
        have HB4 : Hid (Below w.heap.size w w4) := hid (HB3.out.trans (hb.mono HB3.out.size))
        clear hb HB3 
        cases iy with
        | false =>
          go_wp2
          go_ret
          exact ⟨by first | rfl | simp, HB4.out⟩
        | true =>
          have HAX := hid (fun W => HAT.out a b W ZX.out)
          clear HAT
          go_wp2_with fail
          refine (HAX.out _).mono ?_
          rintro e w5 ⟨rfl, hb⟩
          have HB5 : Hid (Below w.heap.size w w5) := hid (HB4.out.trans (hb.mono HB4.out.size))
          clear hb HB4 HAX
          go_wp2_with fail
          refine (HG.out _).mono ?_
          rintro e w6 ⟨rfl, hb⟩
          have HB6 : Hid (Below w.heap.size w w6) := hid (HB5.out.trans (hb.mono HB5.out.size))
          clear hb HB5 HG
          by_cases he : x = y
          · have hg0 : g = 0 := (HGZ.out (by trivial)).2 he
            subst he
            have e1 := ord_eq ZX.out.1 ZY.out.1 rfl; have e2 := ord_eq ZX.out.2 ZY.out.2 rfl
            subst hg0
            go_wp2
            go_ret
            exact ⟨by first | rfl | simp | simp [b1, b2, b3], HB6.out⟩
          · have hg0 : ¬ g = 0 := fun h => he ((HGZ.out (by trivial)).1 h)
            by_cases h3 : (placeZ x n).1 = (placeZ y n).1
            · have h4 : ¬ (placeZ x n).2 = (placeZ y n).2 := fun h4 => he (HPJ.out (by trivial) (Prod.ext h3 h4))
              have e1 := ord_eq ZX.out.1 ZY.out.1 h3; have e2 := ord_ne ZX.out.2 ZY.out.2 h4
              have b1 : (FloatKind.f64.format.order b d == some Ordering.eq) = false := beq_eq_false_iff_ne.2 e2
              have b2 : (x == y) = false := beq_eq_false_iff_ne.2 he
              have b3 : (g == 0) = false := beq_eq_false_iff_ne.2 hg0
              clear h3 h4
              go_wp2
              go_ret
              exact ⟨by first | rfl | simp | simp [b1, b2, b3], HB6.out⟩
            · have e1 := ord_ne ZX.out.1 ZY.out.1 h3
              have b1 : (FloatKind.f64.format.order a c == some Ordering.eq) = false := beq_eq_false_iff_ne.2 e1
              have b2 : (x == y) = false := beq_eq_false_iff_ne.2 he
              have b3 : (g == 0) = false := beq_eq_false_iff_ne.2 hg0
              clear h3
              go_wp2
              go_ret
              exact ⟨by first | rfl | simp | simp [b1, b2, b3], HB6.out⟩
      · rw [decide_eq_true h0, decide_eq_false h1] at hIX
        rw [show inB x n = false from hIX] at HX
        clear hIX HAT HG
        go_enter Try.func7, Try.ntmps7
        go_wp2_with fail
        refine (HA.out _).mono ?_
        rintro e w1 ⟨rfl, hb⟩
        have HB1 : Hid (Below w.heap.size w w1) := hid (HB0.out.trans (hb.mono HB0.out.size))
        clear hb HB0 
        go_wp2_with fail
        refine (HX.out _).mono ?_
        rintro e w2 ⟨a, b, rfl, hz, hb⟩
        have HB2 : Hid (Below w.heap.size w w2) := hid (HB1.out.trans (hb.mono HB1.out.size))
        clear hb HB1 hz HX
        go_wp2_with fail
        refine (HY.out _).mono ?_
        rintro e w3 ⟨c, d, rfl, hz, hb⟩
        have HB3 : Hid (Below w.heap.size w w3) := hid (HB2.out.trans (hb.mono HB2.out.size))
        clear hb HB2 hz HY
        go_wp2_with fail
        refine (HF.out _).mono ?_
        rintro e w4 ⟨rfl, hb⟩
        have HB4 : Hid (Below w.heap.size w w4) := hid (HB3.out.trans (hb.mono HB3.out.size))
        clear hb HB3 
        go_wp2
        go_ret
        exact ⟨by first | rfl | simp, HB4.out⟩
    · rw [decide_eq_false h0] at hIX
      rw [show inB x n = false from hIX] at HX
      clear hIX HAT HG
      go_enter Try.func7, Try.ntmps7
      go_wp2_with fail
      refine (HA.out _).mono ?_
      rintro e w1 ⟨rfl, hb⟩
      have HB1 : Hid (Below w.heap.size w w1) := hid (HB0.out.trans (hb.mono HB0.out.size))
      clear hb HB0 
      go_wp2_with fail
      refine (HX.out _).mono ?_
      rintro e w2 ⟨a, b, rfl, hz, hb⟩
      have HB2 : Hid (Below w.heap.size w w2) := hid (HB1.out.trans (hb.mono HB1.out.size))
      clear hb HB1 hz HX
      go_wp2_with fail
      refine (HY.out _).mono ?_
      rintro e w3 ⟨c, d, rfl, hz, hb⟩
      have HB3 : Hid (Below w.heap.size w w3) := hid (HB2.out.trans (hb.mono HB2.out.size))
      clear hb HB2 hz HY
      go_wp2_with fail
      refine (HF.out _).mono ?_
      rintro e w4 ⟨rfl, hb⟩
      have HB4 : Hid (Below w.heap.size w w4) := hid (HB3.out.trans (hb.mono HB3.out.size))
      clear hb HB3 
      go_wp2
      go_ret
      exact ⟨by first | rfl | simp, HB4.out⟩
  · have hff : fitB n = false := by simpa using hf
    have hIX : inB x n = false := by unfold inB; rw [hff]; rfl
    rw [hIX] at HX
    rw [hff] at HF
    clear hf hff hIX HAT HG
    go_enter Try.func7, Try.ntmps7
    go_wp2_with fail
    refine (HA.out _).mono ?_
    rintro e w1 ⟨rfl, hb⟩
    have HB1 : Hid (Below w.heap.size w w1) := hid (HB0.out.trans (hb.mono HB0.out.size))
    clear hb HB0 
    go_wp2_with fail
    refine (HX.out _).mono ?_
    rintro e w2 ⟨a, b, rfl, hz, hb⟩
    have HB2 : Hid (Below w.heap.size w w2) := hid (HB1.out.trans (hb.mono HB1.out.size))
    clear hb HB1 hz HX
    go_wp2_with fail
    refine (HY.out _).mono ?_
    rintro e w3 ⟨c, d, rfl, hz, hb⟩
    have HB3 : Hid (Below w.heap.size w w3) := hid (HB2.out.trans (hb.mono HB2.out.size))
    clear hb HB2 hz HY
    go_wp2_with fail
    refine (HF.out _).mono ?_
    rintro e w4 ⟨rfl, hb⟩
    have HB4 : Hid (Below w.heap.size w w4) := hid (HB3.out.trans (hb.mono HB3.out.size))
    clear hb HB3 
    go_wp2
    go_ret
    exact ⟨by first | rfl | simp, HB4.out⟩
theorem sq_lit {t : Nat} (h : t ≤ 8) : ((2 ^ (2 * t) : Nat) : Int) = 1 ∨ ((2 ^ (2 * t) : Nat) : Int) = 4 ∨ ((2 ^ (2 * t) : Nat) : Int) = 16 ∨ ((2 ^ (2 * t) : Nat) : Int) = 64 ∨ ((2 ^ (2 * t) : Nat) : Int) = 256 ∨ ((2 ^ (2 * t) : Nat) : Int) = 1024 ∨ ((2 ^ (2 * t) : Nat) : Int) = 4096 ∨ ((2 ^ (2 * t) : Nat) : Int) = 16384 ∨ ((2 ^ (2 * t) : Nat) : Int) = 65536 := by
  have h2 : t = 0 ∨ t = 1 ∨ t = 2 ∨ t = 3 ∨ t = 4 ∨ t = 5 ∨ t = 6 ∨ t = 7 ∨ t = 8 := by omega
  rcases h2 with rfl | rfl | rfl | rfl | rfl | rfl | rfl | rfl | rfl <;> decide
theorem not_sq {h : Nat} (h1 : h ≤ 16) (h2 : h % 2 = 1) : ¬ ((2 ^ h : Nat) : Int) = 1 ∧ ¬ ((2 ^ h : Nat) : Int) = 4 ∧ ¬ ((2 ^ h : Nat) : Int) = 16 ∧ ¬ ((2 ^ h : Nat) : Int) = 64 ∧ ¬ ((2 ^ h : Nat) : Int) = 256 ∧ ¬ ((2 ^ h : Nat) : Int) = 1024 ∧ ¬ ((2 ^ h : Nat) : Int) = 4096 ∧ ¬ ((2 ^ h : Nat) : Int) = 16384 ∧ ¬ ((2 ^ h : Nat) : Int) = 65536 := by
  have h3 : h = 0 ∨ h = 1 ∨ h = 2 ∨ h = 3 ∨ h = 4 ∨ h = 5 ∨ h = 6 ∨ h = 7 ∨ h = 8 ∨ h = 9 ∨ h = 10 ∨ h = 11 ∨ h = 12 ∨ h = 13 ∨ h = 14 ∨ h = 15 ∨ h = 16 := by omega
  rcases h3 with rfl | rfl | rfl | rfl | rfl | rfl | rfl | rfl | rfl | rfl | rfl | rfl | rfl | rfl | rfl | rfl | rfl <;> (first | omega | decide)
theorem i64_of {x : Int} (h1 : -1000000 ≤ x) (h2 : x ≤ 1000000) : I64 x := ⟨by omega, by omega⟩
set_option maxHeartbeats 4000000 in
theorem half15_any (hT : PlTurn) (hA : Alive15) (x n q : Int) (w : World) (hx : I64 x) (hn : I64 n) (hq : I64 q) :
    Calls Try.prog 8 #[.int .i64 x, .int .i64 n, .int .i64 q] w (RetB w true) := by
  have HA := hid hA
  have HF := hid (fun W => FitsR n W)
  have HB0 : Hid (Below w.heap.size w w) := hid (Below.refl _ _)
  by_cases hf : fitB n = true
  · have hb : 1 ≤ n ∧ n ≤ 65536 := by
      obtain ⟨j, h1, rfl⟩ := (fitB_iff n).1 hf
      have := pow_le16 h1
      have := Nat.one_le_two_pow (n := j)
      omega
    have hw1 : wrap64 (2 * n) = 2 * n := wrap64_in (by omega) (by omega)
    have hw2 : wrap64 (2 * n - 2) = 2 * n - 2 := wrap64_in (by omega) (by omega)
    by_cases h0 : x < 0
    · rw [hf] at HF
      clear hb hf hT hA hx hn hq
      go_enter Try.func8, Try.ntmps8
      go_wp2_with fail
      refine (HA.out _).mono ?_
      rintro e w1 ⟨rfl, hb⟩
      have HB1 : Hid (Below w.heap.size w w1) := hid (HB0.out.trans (hb.mono HB0.out.size))
      clear hb HB0 
      go_wp2_with fail
      refine (HF.out _).mono ?_
      rintro e w2 ⟨rfl, hb⟩
      have HB2 : Hid (Below w.heap.size w w2) := hid (HB1.out.trans (hb.mono HB1.out.size))
      clear hb HB1 
      go_wp2
      go_ret
      exact ⟨rfl, HB2.out⟩
    · by_cases h1 : 2 * n - 2 < x
      · rw [hf] at HF
        clear hb hf hT hA hx hn hq
        go_enter Try.func8, Try.ntmps8
        go_wp2_with fail
        refine (HA.out _).mono ?_
        rintro e w1 ⟨rfl, hb⟩
        have HB1 : Hid (Below w.heap.size w w1) := hid (HB0.out.trans (hb.mono HB0.out.size))
        clear hb HB0 
        go_wp2_with fail
        refine (HF.out _).mono ?_
        rintro e w2 ⟨rfl, hb⟩
        have HB2 : Hid (Below w.heap.size w w2) := hid (HB1.out.trans (hb.mono HB1.out.size))
        clear hb HB1 
        go_wp2
        go_ret
        exact ⟨rfl, HB2.out⟩
      · have hin : inB x n = true := by unfold inB; rw [hf, decide_eq_true (by omega), decide_eq_true (by omega)]; rfl
        rw [hf] at HF
        obtain ⟨i, l, k, hi, hk, rfl, rfl⟩ := inB_iff.1 hin
        have HT2 := hid (fun W => hT _ _ 2 W hx hn (i64_small (by decide) (by decide)))
        have HT4 := hid (fun W => hT _ _ 4 W hx hn (i64_small (by decide) (by decide)))
        obtain ⟨t1, t2⟩ := trn_half hi hk
        rw [t1, t2] at HT2
        obtain ⟨t3, t4⟩ := trn_none hi hk
        rw [t3, t4] at HT4
        have hmir := mirror_nd (l := l) hi
        have hw3 : wrap64 (2 * ((2 ^ (l + k) : Nat) : Int) - 2 - (nd i l : Int)) = 2 * ((2 ^ (l + k) : Nat) : Int) - 2 - (nd i l : Int) := wrap64_in (by omega) (by omega)
        have hy : (nd (2 ^ k - 1 - i) l : Int) = 2 * ((2 ^ (l + k) : Nat) : Int) - 2 - (nd i l : Int) := by omega
        rw [hy] at HT2
        have hnd := nd_succ
        have hpar : nd i l % 2 = 1 ∨ (l = 0 ∧ nd i l % 2 = 0) := by
          cases l with
          | zero => right; exact ⟨rfl, by rw [nd_zero]; omega⟩
          | succ l => left; rw [nd_succ]; omega
        have hmt : Int.tmod (nd i l : Int) 2 = ((nd i l % 2 : Nat) : Int) := by rw [Int.tmod_eq_emod_of_nonneg (by omega)]; omega
        have hQ : Hid (∀ z W, I64 z → l = 0 → ∀ t, k = 2 * t → ∃ r, r < 2 ^ (2 * t) ∧ Calls Try.prog 20 #[.int .i64 (nd i l : Int), .int .i64 ((2 ^ (l + k) : Nat) : Int), .int .i64 z] W (RetIB W (nd r 0 : Int) true)) := hid fun z W hz hl t ht => by
          subst hl ht
          obtain ⟨r, hr, e1, e2, -⟩ := trn_leaf z hi (by omega)
          have h := hT _ _ z W hx hn hz
          rw [Nat.zero_add] at h ⊢
          rw [e1, e2] at h
          exact ⟨r, hr, h⟩
        have hQ2 : Hid (∀ r t, r < 2 ^ (2 * t) → l = 0 → k = 2 * t → ∃ s, (∀ W, Calls Try.prog 20 #[.int .i64 (nd r 0 : Int), .int .i64 ((2 ^ (l + k) : Nat) : Int), .int .i64 3] W (RetIB W (nd s 0 : Int) true)) ∧ ∀ W, Calls Try.prog 20 #[.int .i64 (nd s 0 : Int), .int .i64 ((2 ^ (l + k) : Nat) : Int), .int .i64 1] W (RetIB W (nd r 0 : Int) true)) := hid fun r t hr hl ht => by
          subst hl ht
          obtain ⟨s, hs, e1, e2, e3, e4⟩ := trn_back hr (by omega)
          have b1 := nd_lt (l := 0) hr (by omega)
          have b2 := nd_lt (l := 0) hs (by omega)
          refine ⟨s, fun W => ?_, fun W => ?_⟩
          · have h := hT (nd r 0 : Int) _ 3 W (i64_of (by omega) (by omega)) hn (i64_small (by decide) (by decide))
            rw [Nat.zero_add] at h ⊢
            rw [e1, e2] at h
            exact h
          · have h := hT (nd s 0 : Int) _ 1 W (i64_of (by omega) (by omega)) hn (i64_small (by decide) (by decide))
            rw [Nat.zero_add] at h ⊢
            rw [e3, e4] at h
            exact h
        have hsq : (∃ t, l + k = 2 * t ∧ t ≤ 8) ∨ ((l + k) % 2 = 1 ∧ l + k ≤ 16) := by
          rcases Nat.mod_two_eq_zero_or_one (l + k) with h | h
          · left; exact ⟨(l + k) / 2, by omega, by omega⟩
          · right; exact ⟨h, hk⟩
        have hlit : ∀ t, l + k = 2 * t → t ≤ 8 → ((2 ^ (l + k) : Nat) : Int) = 1 ∨ ((2 ^ (l + k) : Nat) : Int) = 4 ∨ ((2 ^ (l + k) : Nat) : Int) = 16 ∨ ((2 ^ (l + k) : Nat) : Int) = 64 ∨ ((2 ^ (l + k) : Nat) : Int) = 256 ∨ ((2 ^ (l + k) : Nat) : Int) = 1024 ∨ ((2 ^ (l + k) : Nat) : Int) = 4096 ∨ ((2 ^ (l + k) : Nat) : Int) = 16384 ∨ ((2 ^ (l + k) : Nat) : Int) = 65536 := fun t h1 h2 => by rw [h1]; exact sq_lit h2
        have hnot : (l + k) % 2 = 1 → ¬ ((2 ^ (l + k) : Nat) : Int) = 1 ∧ ¬ ((2 ^ (l + k) : Nat) : Int) = 4 ∧ ¬ ((2 ^ (l + k) : Nat) : Int) = 16 ∧ ¬ ((2 ^ (l + k) : Nat) : Int) = 64 ∧ ¬ ((2 ^ (l + k) : Nat) : Int) = 256 ∧ ¬ ((2 ^ (l + k) : Nat) : Int) = 1024 ∧ ¬ ((2 ^ (l + k) : Nat) : Int) = 4096 ∧ ¬ ((2 ^ (l + k) : Nat) : Int) = 16384 ∧ ¬ ((2 ^ (l + k) : Nat) : Int) = 65536 := fun h => not_sq hk h
        have hkl : l = 0 → ∀ t, l + k = 2 * t → k = 2 * t := fun h t h2 => by omega
        obtain ⟨x, hxx⟩ : ∃ s : Nat, s = nd i l := ⟨_, rfl⟩
        obtain ⟨n, hnn⟩ : ∃ s : Int, s = ((2 ^ (l + k) : Nat) : Int) := ⟨_, rfl⟩
        rw [← hxx] at HT2 HT4 hw3 hpar hmt hQ h0 h1 ⊢
        rw [← hnn] at HT2 HT4 HF hw1 hw2 hw3 hQ hQ2 h1 hlit hnot ⊢
        have HQ : Hid (∀ z W, I64 z → l = 0 → ∀ t, k = 2 * t → ∃ r, r < 2 ^ (2 * t) ∧ Calls Try.prog 20 #[.int .i64 (x : Int), .int .i64 n, .int .i64 z] W (RetIB W (nd r 0 : Int) true)) := hQ
        clear hQ hnd hy hmir t1 t2 t3 t4 hin hxx hnn hb hf hT hA hx hn hi hk
        rcases hsq with ⟨t, ht, ht8⟩ | ⟨hodd, -⟩
        · have h9 := hlit t ht ht8
          have hkl2 := fun h => hkl h t ht
          clear hlit hnot hkl ht ht8
          rcases hpar with hp | ⟨hl0, hp⟩
          · rw [hp] at hmt
            clear hQ2 HQ hkl2
            rcases h9 with rfl | rfl | rfl | rfl | rfl | rfl | rfl | rfl | rfl
            · exact absurd hp (by clear hmt hw1 hw2 hw3; omega)
            all_goals
              go_enter Try.func8, Try.ntmps8
              go_wp2_with fail
              refine (HA.out _).mono ?_
              rintro e w1 ⟨rfl, hb⟩
              have HB1 : Hid (Below w.heap.size w w1) := hid (HB0.out.trans (hb.mono HB0.out.size))
              clear hb HB0 
              go_wp2_with fail
              refine (HF.out _).mono ?_
              rintro e w2 ⟨rfl, hb⟩
              have HB2 : Hid (Below w.heap.size w w2) := hid (HB1.out.trans (hb.mono HB1.out.size))
              clear hb HB1 
              go_wp2_with fail
              refine (HT2.out _).mono ?_
              rintro e w3 ⟨rfl, hb⟩
              have HB3 : Hid (Below w.heap.size w w3) := hid (HB2.out.trans (hb.mono HB2.out.size))
              clear hb HB2 
              go_wp2_with fail
              refine (HT4.out _).mono ?_
              rintro e w4 ⟨rfl, hb⟩
              have HB4 : Hid (Below w.heap.size w w4) := hid (HB3.out.trans (hb.mono HB3.out.size))
              clear hb HB3 
              go_wp2
              go_ret
              exact ⟨rfl, HB4.out⟩
          · rw [hp] at hmt
            have HR : Hid (∀ W, ∃ r, r < 2 ^ (2 * t) ∧ Calls Try.prog 20 #[.int .i64 (x : Int), .int .i64 n, .int .i64 q] W (RetIB W (nd r 0 : Int) true)) := hid fun W => HQ.out q W hq hl0 t (hkl2 hl0)
            have HS : Hid (∀ r, r < 2 ^ (2 * t) → ∃ s, (∀ W, Calls Try.prog 20 #[.int .i64 (nd r 0 : Int), .int .i64 n, .int .i64 3] W (RetIB W (nd s 0 : Int) true)) ∧ ∀ W, Calls Try.prog 20 #[.int .i64 (nd s 0 : Int), .int .i64 n, .int .i64 1] W (RetIB W (nd r 0 : Int) true)) := hid fun r hr => hQ2.out r t hr hl0 (hkl2 hl0)
            clear hQ2 HQ hkl2 hl0 hq
            rcases h9 with rfl | rfl | rfl | rfl | rfl | rfl | rfl | rfl | rfl
            all_goals
              go_enter Try.func8, Try.ntmps8
              go_wp2_with fail
              refine (HA.out _).mono ?_
              rintro e w1 ⟨rfl, hb⟩
              have HB1 : Hid (Below w.heap.size w w1) := hid (HB0.out.trans (hb.mono HB0.out.size))
              clear hb HB0 
              go_wp2_with fail
              refine (HF.out _).mono ?_
              rintro e w2 ⟨rfl, hb⟩
              have HB2 : Hid (Below w.heap.size w w2) := hid (HB1.out.trans (hb.mono HB1.out.size))
              clear hb HB1 
              go_wp2_with fail
              refine (HT2.out _).mono ?_
              rintro e w3 ⟨rfl, hb⟩
              have HB3 : Hid (Below w.heap.size w w3) := hid (HB2.out.trans (hb.mono HB2.out.size))
              clear hb HB2 
              go_wp2_with fail
              refine (HT4.out _).mono ?_
              rintro e w4 ⟨rfl, hb⟩
              have HB4 : Hid (Below w.heap.size w w4) := hid (HB3.out.trans (hb.mono HB3.out.size))
              clear hb HB3 
              obtain ⟨r, hr, hc⟩ := HR.out w4
              obtain ⟨s, hs1, hs2⟩ := HS.out r hr
              have hu : Int.tmod (nd r 0 : Int) 2 = 0 := by rw [nd_zero, Int.tmod_eq_emod_of_nonneg (by omega)]; omega
              obtain ⟨u, hu2⟩ : ∃ u : Int, u = (nd r 0 : Int) := ⟨_, rfl⟩
              obtain ⟨v, hv2⟩ : ∃ u : Int, u = (nd s 0 : Int) := ⟨_, rfl⟩
              rw [← hu2] at hc hs1 hs2 hu
              rw [← hv2] at hs1 hs2
              have HC := hid hc; have HS1 := hid hs1; have HS2 := hid hs2
              clear hc hs1 hs2 hu2 hv2 hr HR HS
              go_wp2_with fail
              refine HC.out.mono ?_
              rintro e w5 ⟨rfl, hb⟩
              have HB5 : Hid (Below w.heap.size w w5) := hid (HB4.out.trans (hb.mono HB4.out.size))
              clear hb HB4 HC
              go_wp2_with fail
              refine (HS1.out _).mono ?_
              rintro e w6 ⟨rfl, hb⟩
              have HB6 : Hid (Below w.heap.size w w6) := hid (HB5.out.trans (hb.mono HB5.out.size))
              clear hb HB5 HS1
              go_wp2_with fail
              refine (HS2.out _).mono ?_
              rintro e w7 ⟨rfl, hb⟩
              have HB7 : Hid (Below w.heap.size w w7) := hid (HB6.out.trans (hb.mono HB6.out.size))
              clear hb HB6 HS2
              go_wp2
              go_ret
              exact ⟨by first | rfl | simp, HB7.out⟩
        · obtain ⟨n0, n1, n2, n3, n4, n5, n6, n7, n8⟩ := hnot hodd
          clear hlit hnot hkl hodd hQ2 HQ hpar hq
          go_enter Try.func8, Try.ntmps8
          go_wp2_with fail
          refine (HA.out _).mono ?_
          rintro e w1 ⟨rfl, hb⟩
          have HB1 : Hid (Below w.heap.size w w1) := hid (HB0.out.trans (hb.mono HB0.out.size))
          clear hb HB0 
          go_wp2_with fail
          refine (HF.out _).mono ?_
          rintro e w2 ⟨rfl, hb⟩
          have HB2 : Hid (Below w.heap.size w w2) := hid (HB1.out.trans (hb.mono HB1.out.size))
          clear hb HB1 
          go_wp2_with fail
          refine (HT2.out _).mono ?_
          rintro e w3 ⟨rfl, hb⟩
          have HB3 : Hid (Below w.heap.size w w3) := hid (HB2.out.trans (hb.mono HB2.out.size))
          clear hb HB2 
          go_wp2_with fail
          refine (HT4.out _).mono ?_
          rintro e w4 ⟨rfl, hb⟩
          have HB4 : Hid (Below w.heap.size w w4) := hid (HB3.out.trans (hb.mono HB3.out.size))
          clear hb HB3 
          go_wp2
          go_ret
          exact ⟨rfl, HB4.out⟩
  · have hff : fitB n = false := by simpa using hf
    rw [hff] at HF
    clear hf hff hT hA hx hn hq
    go_enter Try.func8, Try.ntmps8
    go_wp2_with fail
    refine (HA.out _).mono ?_
    rintro e w1 ⟨rfl, hb⟩
    have HB1 : Hid (Below w.heap.size w w1) := hid (HB0.out.trans (hb.mono HB0.out.size))
    clear hb HB0 
    go_wp2_with fail
    refine (HF.out _).mono ?_
    rintro e w2 ⟨rfl, hb⟩
    have HB2 : Hid (Below w.heap.size w w2) := hid (HB1.out.trans (hb.mono HB1.out.size))
    clear hb HB1 
    go_wp2
    go_ret
    exact ⟨rfl, HB2.out⟩
end Go.Proofs.Ytmipocpajglbaaa
end
section
namespace Go.Proofs.Ytmipocpajglbaaa
open Go Go.RowKit
set_option linter.unusedVariables false
set_option linter.unusedSimpArgs false
set_option maxHeartbeats 4000000 in
theorem at15_any (hAt : PlAt) (hOff : PlOff) (hA : Alive15) (a b : Int) (m : Nat) (n : Int) (w : World) (ha : -32768 ≤ a ∧ a ≤ 32767) (hb : -32768 ≤ b ∧ b ≤ 32767) (hm : m < 2 ^ 64) (hn : I64 n) :
    Calls Try.prog 4 #[.int .i16 a, .int .i16 b, .float .f64 m, .int .i64 n] w (RetB w true) := by
  have HA := hid hA
  have la : Lt20 a := ⟨by omega, by omega⟩
  have lb : Lt20 b := ⟨by omega, by omega⟩
  have HX := hid (fun W => hAt _ _ a b n W ⟨fz_nat a la, fz_nat b lb⟩ la lb hn)
  have HR := hid (fun Y W => At15_any a Y n W)
  have HW := hid (fun Y (h : Whl m Y) W => hAt _ _ a Y n W ⟨fz_nat a la, h.1⟩ la ⟨by have := h.2; omega, by have := h.2; omega⟩ hn)
  have HO := hid (fun (h : ∀ Y, ¬ Whl m Y) (h2 : n ≤ 64 ∨ 65536 < n) W => hOff _ m a n W (fz_nat a la) la hm h h2 hn)
  have hwa : wrap64 a = a := wrap64_in (by omega) (by omega)
  have hwb : wrap64 b = b := wrap64_in (by omega) (by omega)
  have HM := hid hm
  obtain ⟨fa, hfa⟩ : ∃ t, t = floatOfInt .f64 a := ⟨_, rfl⟩
  clear hAt hOff hA ha hb hm hn la lb hfa fa
  have HB0 : Hid (Below w.heap.size w w) := hid (Below.refl _ _)
  have hcs : (64 < n ∧ n ≤ 65536) ∨ (64 < n ∧ ¬ n ≤ 65536) ∨ ¬ 64 < n := by omega
  rcases hcs with ⟨h1, h2⟩ | hrest
  · clear HX HR HW HO
    go_enter Try.func4, Try.ntmps4
    go_wp2_with fail
    refine (HA.out _).mono ?_
    rintro e w1 ⟨rfl, hb⟩
    have HB1 : Hid (Below w.heap.size w w1) := hid (HB0.out.trans (hb.mono HB0.out.size))
    clear hb HB0 
    go_wp2
    go_ret
    exact ⟨rfl, HB1.out⟩
  · rcases hrest with ⟨h1, h2⟩ | h1
    · skip
      obtain ⟨y0, hy0⟩ : ∃ t, t = atZ (a, b) n := ⟨_, rfl⟩
      obtain ⟨k0, hk0⟩ : ∃ t, t = atB (a, b) n := ⟨_, rfl⟩
      have HX2 : Hid (∀ W, Calls Try.prog 14 #[.complex .f64 (floatOfInt .f64 a) (floatOfInt .f64 b), .int .i64 n] W (RetIB W y0 k0)) := hid (by rw [hy0, hk0]; exact HX.out)
      have HR2 : Hid (∀ W, Calls Try.prog 15 #[.agg (spA a b), .int .i64 n] W (RetIB W y0 k0)) := hid (by rw [hy0, hk0]; exact HR.out b)
      clear hy0 hk0 HX
      go_enter Try.func4, Try.ntmps4
      go_wp2_with fail
      refine (HA.out _).mono ?_
      rintro e w1 ⟨rfl, hb⟩
      have HB1 : Hid (Below w.heap.size w w1) := hid (HB0.out.trans (hb.mono HB0.out.size))
      clear hb HB0 
      go_wp2_with fail
      refine (HX2.out _).mono ?_
      rintro e w2 ⟨rfl, hb⟩
      have HB2 : Hid (Below w.heap.size w w2) := hid (HB1.out.trans (hb.mono HB1.out.size))
      clear hb HB1 HX2
      go_wp2_with fail
      refine (HR2.out _).mono ?_
      rintro e w3 ⟨rfl, hb⟩
      have HB3 : Hid (Below w.heap.size w w3) := hid (HB2.out.trans (hb.mono HB2.out.size))
      clear hb HB2 HR2
      cases k0 with
      | false =>
        have HCV : Hid True := hid trivial
        by_cases e1 : FloatKind.f64.format.order m 13867357308859711488 = some .gt
        · by_cases e2 : FloatKind.f64.format.order m 4643985272004935680 = some .lt
          · obtain ⟨z, hcv, hzl, hzi⟩ := whl_cut e1 e2
            have hcv2 : ∀ W : World, (convert 27 3 (.float .f64 m)).run Try.prog W = .ok (.int .i64 z) W := fun W => run_convert_float_int W _ _ .f64 .i64 m z (by kernel_rfl) (by kernel_rfl) hcv
            by_cases e3 : FloatKind.f64.format.order m (floatOfInt .f64 z) = some .eq
            · have hz := whl_yes HM.out e1 e2 hzl e3
              clear hcv hzl hzi
              have HW1 := hid (fun W => HW.out z hz W)
              have HR1 := hid (fun W => HR.out z W)
              obtain ⟨y, hy⟩ : ∃ t, t = atZ (a, z) n := ⟨_, rfl⟩
              obtain ⟨k, hk⟩ : ∃ t, t = atB (a, z) n := ⟨_, rfl⟩
              rw [← hy, ← hk] at HW1 HR1
              clear hy hk HO HW hz HR
              go_wp2_with fail
              refine (HW1.out _).mono ?_
              rintro e w4 ⟨rfl, hb⟩
              have HB4 : Hid (Below w.heap.size w w4) := hid (HB3.out.trans (hb.mono HB3.out.size))
              clear hb HB3 HW1
              go_wp2_with fail
              refine (HR1.out _).mono ?_
              rintro e w5 ⟨rfl, hb⟩
              have HB5 : Hid (Below w.heap.size w w5) := hid (HB4.out.trans (hb.mono HB4.out.size))
              clear hb HB4 HR1
              cases k with
              | false =>
                go_wp2
                go_ret
                exact ⟨by first | rfl | simp, HB5.out⟩
              | true =>
                go_wp2
                go_ret
                exact ⟨by first | rfl | simp, HB5.out⟩
            · have hno := whl_no hzl hzi e3
              have b3 : (FloatKind.f64.format.order m (floatOfInt .f64 z) == some Ordering.eq) = false := beq_eq_false_iff_ne.2 e3
              clear hcv hzl hzi
              have HO1 := hid (fun W => HO.out hno (by omega) W)
              clear HO HW hno
              go_wp2_with fail
              refine (HO1.out _).mono ?_
              rintro e w4 ⟨rfl, hb⟩
              have HB4 : Hid (Below w.heap.size w w4) := hid (HB3.out.trans (hb.mono HB3.out.size))
              clear hb HB3 HO1
              go_wp2
              go_ret
              exact ⟨by first | rfl | simp, HB4.out⟩
          · have hno : ∀ Y, ¬ Whl m Y := fun Y h => e2 (whl_in h).2
            have HO1 := hid (fun W => HO.out hno (by omega) W)
            clear HO HW hno
            go_wp2_with fail
            refine (HO1.out _).mono ?_
            rintro e w4 ⟨rfl, hb⟩
            have HB4 : Hid (Below w.heap.size w w4) := hid (HB3.out.trans (hb.mono HB3.out.size))
            clear hb HB3 HO1
            go_wp2
            go_ret
            exact ⟨by first | rfl | simp, HB4.out⟩
        · have hno : ∀ Y, ¬ Whl m Y := fun Y h => e1 (whl_in h).1
          have HO1 := hid (fun W => HO.out hno (by omega) W)
          clear HO HW hno
          go_wp2_with fail
          refine (HO1.out _).mono ?_
          rintro e w4 ⟨rfl, hb⟩
          have HB4 : Hid (Below w.heap.size w w4) := hid (HB3.out.trans (hb.mono HB3.out.size))
          clear hb HB3 HO1
          go_wp2
          go_ret
          exact ⟨by first | rfl | simp, HB4.out⟩
      | true =>
        have HCV : Hid True := hid trivial
        by_cases e1 : FloatKind.f64.format.order m 13867357308859711488 = some .gt
        · by_cases e2 : FloatKind.f64.format.order m 4643985272004935680 = some .lt
          · obtain ⟨z, hcv, hzl, hzi⟩ := whl_cut e1 e2
            have hcv2 : ∀ W : World, (convert 27 3 (.float .f64 m)).run Try.prog W = .ok (.int .i64 z) W := fun W => run_convert_float_int W _ _ .f64 .i64 m z (by kernel_rfl) (by kernel_rfl) hcv
            by_cases e3 : FloatKind.f64.format.order m (floatOfInt .f64 z) = some .eq
            · have hz := whl_yes HM.out e1 e2 hzl e3
              clear hcv hzl hzi
              have HW1 := hid (fun W => HW.out z hz W)
              have HR1 := hid (fun W => HR.out z W)
              obtain ⟨y, hy⟩ : ∃ t, t = atZ (a, z) n := ⟨_, rfl⟩
              obtain ⟨k, hk⟩ : ∃ t, t = atB (a, z) n := ⟨_, rfl⟩
              rw [← hy, ← hk] at HW1 HR1
              clear hy hk HO HW hz HR
              go_wp2_with fail
              refine (HW1.out _).mono ?_
              rintro e w4 ⟨rfl, hb⟩
              have HB4 : Hid (Below w.heap.size w w4) := hid (HB3.out.trans (hb.mono HB3.out.size))
              clear hb HB3 HW1
              go_wp2_with fail
              refine (HR1.out _).mono ?_
              rintro e w5 ⟨rfl, hb⟩
              have HB5 : Hid (Below w.heap.size w w5) := hid (HB4.out.trans (hb.mono HB4.out.size))
              clear hb HB4 HR1
              cases k with
              | false =>
                go_wp2
                go_ret
                exact ⟨by first | rfl | simp, HB5.out⟩
              | true =>
                go_wp2
                go_ret
                exact ⟨by first | rfl | simp, HB5.out⟩
            · have hno := whl_no hzl hzi e3
              have b3 : (FloatKind.f64.format.order m (floatOfInt .f64 z) == some Ordering.eq) = false := beq_eq_false_iff_ne.2 e3
              clear hcv hzl hzi
              have HO1 := hid (fun W => HO.out hno (by omega) W)
              clear HO HW hno
              go_wp2_with fail
              refine (HO1.out _).mono ?_
              rintro e w4 ⟨rfl, hb⟩
              have HB4 : Hid (Below w.heap.size w w4) := hid (HB3.out.trans (hb.mono HB3.out.size))
              clear hb HB3 HO1
              go_wp2
              go_ret
              exact ⟨by first | rfl | simp, HB4.out⟩
          · have hno : ∀ Y, ¬ Whl m Y := fun Y h => e2 (whl_in h).2
            have HO1 := hid (fun W => HO.out hno (by omega) W)
            clear HO HW hno
            go_wp2_with fail
            refine (HO1.out _).mono ?_
            rintro e w4 ⟨rfl, hb⟩
            have HB4 : Hid (Below w.heap.size w w4) := hid (HB3.out.trans (hb.mono HB3.out.size))
            clear hb HB3 HO1
            go_wp2
            go_ret
            exact ⟨by first | rfl | simp, HB4.out⟩
        · have hno : ∀ Y, ¬ Whl m Y := fun Y h => e1 (whl_in h).1
          have HO1 := hid (fun W => HO.out hno (by omega) W)
          clear HO HW hno
          go_wp2_with fail
          refine (HO1.out _).mono ?_
          rintro e w4 ⟨rfl, hb⟩
          have HB4 : Hid (Below w.heap.size w w4) := hid (HB3.out.trans (hb.mono HB3.out.size))
          clear hb HB3 HO1
          go_wp2
          go_ret
          exact ⟨by first | rfl | simp, HB4.out⟩
    · skip
      obtain ⟨y0, hy0⟩ : ∃ t, t = atZ (a, b) n := ⟨_, rfl⟩
      obtain ⟨k0, hk0⟩ : ∃ t, t = atB (a, b) n := ⟨_, rfl⟩
      have HX2 : Hid (∀ W, Calls Try.prog 14 #[.complex .f64 (floatOfInt .f64 a) (floatOfInt .f64 b), .int .i64 n] W (RetIB W y0 k0)) := hid (by rw [hy0, hk0]; exact HX.out)
      have HR2 : Hid (∀ W, Calls Try.prog 15 #[.agg (spA a b), .int .i64 n] W (RetIB W y0 k0)) := hid (by rw [hy0, hk0]; exact HR.out b)
      clear hy0 hk0 HX
      go_enter Try.func4, Try.ntmps4
      go_wp2_with fail
      refine (HA.out _).mono ?_
      rintro e w1 ⟨rfl, hb⟩
      have HB1 : Hid (Below w.heap.size w w1) := hid (HB0.out.trans (hb.mono HB0.out.size))
      clear hb HB0 
      go_wp2_with fail
      refine (HX2.out _).mono ?_
      rintro e w2 ⟨rfl, hb⟩
      have HB2 : Hid (Below w.heap.size w w2) := hid (HB1.out.trans (hb.mono HB1.out.size))
      clear hb HB1 HX2
      go_wp2_with fail
      refine (HR2.out _).mono ?_
      rintro e w3 ⟨rfl, hb⟩
      have HB3 : Hid (Below w.heap.size w w3) := hid (HB2.out.trans (hb.mono HB2.out.size))
      clear hb HB2 HR2
      cases k0 with
      | false =>
        have HCV : Hid True := hid trivial
        by_cases e1 : FloatKind.f64.format.order m 13867357308859711488 = some .gt
        · by_cases e2 : FloatKind.f64.format.order m 4643985272004935680 = some .lt
          · obtain ⟨z, hcv, hzl, hzi⟩ := whl_cut e1 e2
            have hcv2 : ∀ W : World, (convert 27 3 (.float .f64 m)).run Try.prog W = .ok (.int .i64 z) W := fun W => run_convert_float_int W _ _ .f64 .i64 m z (by kernel_rfl) (by kernel_rfl) hcv
            by_cases e3 : FloatKind.f64.format.order m (floatOfInt .f64 z) = some .eq
            · have hz := whl_yes HM.out e1 e2 hzl e3
              clear hcv hzl hzi
              have HW1 := hid (fun W => HW.out z hz W)
              have HR1 := hid (fun W => HR.out z W)
              obtain ⟨y, hy⟩ : ∃ t, t = atZ (a, z) n := ⟨_, rfl⟩
              obtain ⟨k, hk⟩ : ∃ t, t = atB (a, z) n := ⟨_, rfl⟩
              rw [← hy, ← hk] at HW1 HR1
              clear hy hk HO HW hz HR
              go_wp2_with fail
              refine (HW1.out _).mono ?_
              rintro e w4 ⟨rfl, hb⟩
              have HB4 : Hid (Below w.heap.size w w4) := hid (HB3.out.trans (hb.mono HB3.out.size))
              clear hb HB3 HW1
              go_wp2_with fail
              refine (HR1.out _).mono ?_
              rintro e w5 ⟨rfl, hb⟩
              have HB5 : Hid (Below w.heap.size w w5) := hid (HB4.out.trans (hb.mono HB4.out.size))
              clear hb HB4 HR1
              cases k with
              | false =>
                go_wp2
                go_ret
                exact ⟨by first | rfl | simp, HB5.out⟩
              | true =>
                go_wp2
                go_ret
                exact ⟨by first | rfl | simp, HB5.out⟩
            · have hno := whl_no hzl hzi e3
              have b3 : (FloatKind.f64.format.order m (floatOfInt .f64 z) == some Ordering.eq) = false := beq_eq_false_iff_ne.2 e3
              clear hcv hzl hzi
              have HO1 := hid (fun W => HO.out hno (by omega) W)
              clear HO HW hno
              go_wp2_with fail
              refine (HO1.out _).mono ?_
              rintro e w4 ⟨rfl, hb⟩
              have HB4 : Hid (Below w.heap.size w w4) := hid (HB3.out.trans (hb.mono HB3.out.size))
              clear hb HB3 HO1
              go_wp2
              go_ret
              exact ⟨by first | rfl | simp, HB4.out⟩
          · have hno : ∀ Y, ¬ Whl m Y := fun Y h => e2 (whl_in h).2
            have HO1 := hid (fun W => HO.out hno (by omega) W)
            clear HO HW hno
            go_wp2_with fail
            refine (HO1.out _).mono ?_
            rintro e w4 ⟨rfl, hb⟩
            have HB4 : Hid (Below w.heap.size w w4) := hid (HB3.out.trans (hb.mono HB3.out.size))
            clear hb HB3 HO1
            go_wp2
            go_ret
            exact ⟨by first | rfl | simp, HB4.out⟩
        · have hno : ∀ Y, ¬ Whl m Y := fun Y h => e1 (whl_in h).1
          have HO1 := hid (fun W => HO.out hno (by omega) W)
          clear HO HW hno
          go_wp2_with fail
          refine (HO1.out _).mono ?_
          rintro e w4 ⟨rfl, hb⟩
          have HB4 : Hid (Below w.heap.size w w4) := hid (HB3.out.trans (hb.mono HB3.out.size))
          clear hb HB3 HO1
          go_wp2
          go_ret
          exact ⟨by first | rfl | simp, HB4.out⟩
      | true =>
        have HCV : Hid True := hid trivial
        by_cases e1 : FloatKind.f64.format.order m 13867357308859711488 = some .gt
        · by_cases e2 : FloatKind.f64.format.order m 4643985272004935680 = some .lt
          · obtain ⟨z, hcv, hzl, hzi⟩ := whl_cut e1 e2
            have hcv2 : ∀ W : World, (convert 27 3 (.float .f64 m)).run Try.prog W = .ok (.int .i64 z) W := fun W => run_convert_float_int W _ _ .f64 .i64 m z (by kernel_rfl) (by kernel_rfl) hcv
            by_cases e3 : FloatKind.f64.format.order m (floatOfInt .f64 z) = some .eq
            · have hz := whl_yes HM.out e1 e2 hzl e3
              clear hcv hzl hzi
              have HW1 := hid (fun W => HW.out z hz W)
              have HR1 := hid (fun W => HR.out z W)
              obtain ⟨y, hy⟩ : ∃ t, t = atZ (a, z) n := ⟨_, rfl⟩
              obtain ⟨k, hk⟩ : ∃ t, t = atB (a, z) n := ⟨_, rfl⟩
              rw [← hy, ← hk] at HW1 HR1
              clear hy hk HO HW hz HR
              go_wp2_with fail
              refine (HW1.out _).mono ?_
              rintro e w4 ⟨rfl, hb⟩
              have HB4 : Hid (Below w.heap.size w w4) := hid (HB3.out.trans (hb.mono HB3.out.size))
              clear hb HB3 HW1
              go_wp2_with fail
              refine (HR1.out _).mono ?_
              rintro e w5 ⟨rfl, hb⟩
              have HB5 : Hid (Below w.heap.size w w5) := hid (HB4.out.trans (hb.mono HB4.out.size))
              clear hb HB4 HR1
              cases k with
              | false =>
                go_wp2
                go_ret
                exact ⟨by first | rfl | simp, HB5.out⟩
              | true =>
                go_wp2
                go_ret
                exact ⟨by first | rfl | simp, HB5.out⟩
            · have hno := whl_no hzl hzi e3
              have b3 : (FloatKind.f64.format.order m (floatOfInt .f64 z) == some Ordering.eq) = false := beq_eq_false_iff_ne.2 e3
              clear hcv hzl hzi
              have HO1 := hid (fun W => HO.out hno (by omega) W)
              clear HO HW hno
              go_wp2_with fail
              refine (HO1.out _).mono ?_
              rintro e w4 ⟨rfl, hb⟩
              have HB4 : Hid (Below w.heap.size w w4) := hid (HB3.out.trans (hb.mono HB3.out.size))
              clear hb HB3 HO1
              go_wp2
              go_ret
              exact ⟨by first | rfl | simp, HB4.out⟩
          · have hno : ∀ Y, ¬ Whl m Y := fun Y h => e2 (whl_in h).2
            have HO1 := hid (fun W => HO.out hno (by omega) W)
            clear HO HW hno
            go_wp2_with fail
            refine (HO1.out _).mono ?_
            rintro e w4 ⟨rfl, hb⟩
            have HB4 : Hid (Below w.heap.size w w4) := hid (HB3.out.trans (hb.mono HB3.out.size))
            clear hb HB3 HO1
            go_wp2
            go_ret
            exact ⟨by first | rfl | simp, HB4.out⟩
        · have hno : ∀ Y, ¬ Whl m Y := fun Y h => e1 (whl_in h).1
          have HO1 := hid (fun W => HO.out hno (by omega) W)
          clear HO HW hno
          go_wp2_with fail
          refine (HO1.out _).mono ?_
          rintro e w4 ⟨rfl, hb⟩
          have HB4 : Hid (Below w.heap.size w w4) := hid (HB3.out.trans (hb.mono HB3.out.size))
          clear hb HB3 HO1
          go_wp2
          go_ret
          exact ⟨by first | rfl | simp, HB4.out⟩
end Go.Proofs.Ytmipocpajglbaaa
end
