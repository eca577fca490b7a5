/-
  Texts of this claim in one file: Ref15a, Ref15b, Ref15c, Ref15d, Ref15e.
-/
import Derived.Test.YtmipocpajglbaaaPk3
import Derived.Test.YtmipocpajglbaaaPk6
section
namespace Go.Proofs.Ytmipocpajglbaaa
open Go Go.RowKit
set_option linter.unusedVariables false
set_option linter.unusedSimpArgs false
/-- The stride of a level, and whether it goes up. -/
def strN (l : Nat) : Nat := 2 ^ ((l - 1) / 2)
def strZ (l : Int) : Int := if 1 ≤ l ∧ l ≤ 16 then (strN l.toNat : Int) else 0
def upB (l : Int) : Bool := if 1 ≤ l ∧ l ≤ 16 then decide (l % 2 = 0) else false
def RetIB (W : World) (y : Int) (b : Bool) (e : Ending) (w' : World) : Prop := e = .returned (.tuple #[.int .i64 y, .bool b]) ∧ Below W.heap.size W w'
set_option maxHeartbeats 1000000 in
theorem Stride15_in (l : Nat) (w : World) (h1 : 1 ≤ l) (h2 : l ≤ 16) : Calls Try.prog 10 #[.int .i64 (l : Int)] w (RetIB w (strN l : Int) (decide (l % 2 = 0))) := by
  obtain ⟨t, ht⟩ : ∃ t, t = (l - 1) / 2 := ⟨_, rfl⟩
  have h3 : ¬ (l : Int) < 1 := by omega
  have h4 : ¬ (16 : Int) < (l : Int) := by omega
  have hw : wrap64 ((l : Int) - 1) = (l : Int) - 1 := wrap64_in (by omega) (by omega)
  have hq : ((l : Int) - 1) / 2 = (t : Int) := by omega
  have hw2 : wrap64 (t : Int) = (t : Int) := wrap64_in (by omega) (by omega)
  have ht7 : t ≤ 7 := by omega
  obtain ⟨b, hb⟩ : ∃ b, b = decide (l % 2 = 0) := ⟨_, rfl⟩
  have hmd : ((l : Int) % 2 == 0) = b := by
    rw [hb]
    by_cases h : l % 2 = 0
    · rw [decide_eq_true h, beq_iff_eq]; omega
    · rw [decide_eq_false h, beq_eq_false_iff_ne]; omega
  have hmt : Int.tmod (l : Int) 2 = (l : Int) % 2 := Int.tmod_eq_emod_of_nonneg (by omega)
  have htd : Int.tdiv ((l : Int) - 1) 2 = (t : Int) := by rw [Int.tdiv_eq_ediv_of_nonneg (by clear hmt; omega)]; exact hq
  have hs : strN l = 2 ^ t := by unfold strN; rw [← ht]
  rw [hs, ← hb]
  have HMD := hid hmd; have HMT := hid hmt
  clear hmd hmt hb hs h1 h2 ht
  go_enter Try.func10, Try.ntmps10
  go_wp2
  go_loopg [4, 5] t (fun r s i wr => ∃ j : Nat, j + r = t ∧ i = .int .i64 ((j : Int) + 1) ∧ s = .int .i64 ((2 ^ j : Nat) : Int) ∧ wr = w)
  case atStart => exact ⟨0, by omega, rfl, rfl, rfl⟩
  case round =>
    obtain ⟨j, hj, rfl, rfl, hwr⟩ := hrel
    subst hwr
    have HJ := hid hj
    by_cases hlt : j < t
    · have hle : (j : Int) + 1 ≤ (t : Int) := by clear htd hq; omega
      have hp : 2 ^ j ≤ 2 ^ 7 := Nat.pow_le_pow_right (by decide) (by clear htd hq; omega)
      have hp2 : ((2 ^ (j + 1) : Nat) : Int) = 2 * ((2 ^ j : Nat) : Int) := by rw [pow1]; clear htd hq; omega
      have HP2 := hid hp2; have HLT := hid hlt
      obtain ⟨P, hP⟩ : ∃ P, P = 2 ^ j := ⟨_, rfl⟩
      have HP := hid hP
      rw [← hP] at hp ⊢
      have hwp : wrap64 (2 * (P : Int)) = 2 * (P : Int) := wrap64_in (by clear htd hq; omega) (by clear htd hq; omega)
      have hwj : wrap64 ((j : Int) + 1 + 1) = (j : Int) + 1 + 1 := wrap64_in (by clear htd hq hwp; omega) (by clear htd hq hwp; omega)
      clear hp2 hP hj hlt
      go_wp2
      have hj := HJ.out; have hlt := HLT.out
      go_roundg (t - j - 1)
      case measure => clear htd hq hwp hwj; omega
      case rel => exact ⟨j + 1, by clear htd hq hwp hwj; omega, by first | rfl | (rw [hwj]; rfl), by rw [HP2.out, ← HP.out], rfl⟩
    · have hmt := HMT.out
      have hje : j = t := by clear htd hq hmt; omega
      subst hje
      have hle : ¬ (j : Int) + 1 ≤ (j : Int) := by clear htd hq hmt; omega
      clear hj hlt
      go_wp2
      go_ret2
      exact ⟨by rw [← HMD.out]; rfl, Below.refl _ _⟩
theorem Stride15_out (l : Int) (w : World) (h : ¬ (1 ≤ l ∧ l ≤ 16)) : Calls Try.prog 10 #[.int .i64 l] w (RetIB w 0 false) := by
  by_cases h1 : l < 1
  · clear h
    go_enter Try.func10, Try.ntmps10
    go_wp2
    go_ret2
    exact ⟨rfl, Below.refl _ _⟩
  · have h2 : 16 < l := by omega
    clear h
    go_enter Try.func10, Try.ntmps10
    go_wp2
    go_ret2
    exact ⟨rfl, Below.refl _ _⟩
theorem StrideR15 (l : Int) (w : World) : Calls Try.prog 10 #[.int .i64 l] w (RetIB w (strZ l) (upB l)) := by
  by_cases h : 1 ≤ l ∧ l ≤ 16
  · obtain ⟨m, rfl⟩ := Int.eq_ofNat_of_zero_le (show (0 : Int) ≤ l by omega)
    have h2 := Stride15_in m w (by omega) (by omega)
    unfold strZ upB
    rw [if_pos h, if_pos h, Int.toNat_natCast]
    have h3 : decide (((m : Nat) : Int) % 2 = 0) = decide (m % 2 = 0) := by
      by_cases h4 : m % 2 = 0
      · rw [decide_eq_true h4, decide_eq_true (by omega)]
      · rw [decide_eq_false h4, decide_eq_false (by omega)]
    rw [h3]
    exact h2
  · unfold strZ upB
    rw [if_neg h, if_neg h]
    exact Stride15_out l w h
/-- The place of the q-th node of level l, k steps below the root. -/
def plc (q l : Nat) : Nat → Int × Int
  | 0 => (0, 0)
  | k + 1 => if (l + 1) % 2 = 0 then ((plc (q / 2) (l + 1) k).1, (plc (q / 2) (l + 1) k).2 + (if q % 2 = 0 then -(strN (l + 1) : Int) else (strN (l + 1) : Int)))
    else ((plc (q / 2) (l + 1) k).1 + (if q % 2 = 0 then -(strN (l + 1) : Int) else (strN (l + 1) : Int)), (plc (q / 2) (l + 1) k).2)
theorem strN_le {l : Nat} (h : l ≤ 16) : strN l ≤ 128 := by
  unfold strN
  exact Nat.pow_le_pow_right (show 1 ≤ 2 by decide) (show (l - 1) / 2 ≤ 7 by omega)
theorem plc_le (q l k : Nat) (h : l + k ≤ 16) : -(128 * (k : Int)) ≤ (plc q l k).1 ∧ (plc q l k).1 ≤ 128 * (k : Int) ∧ -(128 * (k : Int)) ≤ (plc q l k).2 ∧ (plc q l k).2 ≤ 128 * (k : Int) := by
  induction k generalizing q l with
  | zero => simp [plc]
  | succ k ih =>
    have h1 := ih (q / 2) (l + 1) (by omega)
    have h2 := strN_le (l := l + 1) (by omega)
    unfold plc
    obtain ⟨P, hP⟩ : ∃ P, P = plc (q / 2) (l + 1) k := ⟨_, rfl⟩
    rw [← hP] at h1 ⊢
    obtain ⟨S, hS⟩ : ∃ S, S = strN (l + 1) := ⟨_, rfl⟩
    rw [← hS] at h2 ⊢
    clear hP hS ih
    split <;> split <;> (dsimp only; omega)
/-- A step of the way. -/
theorem plc_step (q l k i : Nat) (h : i < k) : plc (q / 2 ^ (k - (i + 1))) (l + (k - (i + 1))) (i + 1) =
    if (l + (k - i)) % 2 = 0 then ((plc (q / 2 ^ (k - i)) (l + (k - i)) i).1, (plc (q / 2 ^ (k - i)) (l + (k - i)) i).2 + (if (q / 2 ^ (k - (i + 1))) % 2 = 0 then -(strN (l + (k - i)) : Int) else (strN (l + (k - i)) : Int)))
    else ((plc (q / 2 ^ (k - i)) (l + (k - i)) i).1 + (if (q / 2 ^ (k - (i + 1))) % 2 = 0 then -(strN (l + (k - i)) : Int) else (strN (l + (k - i)) : Int)), (plc (q / 2 ^ (k - i)) (l + (k - i)) i).2) := by
  obtain ⟨j, hj⟩ : ∃ j, j = k - (i + 1) := ⟨_, rfl⟩
  have h1 : k - i = j + 1 := by omega
  rw [h1, ← hj]
  have h2 : q / 2 ^ (j + 1) = q / 2 ^ j / 2 := by rw [Nat.div_div_eq_div_mul, ← Nat.pow_succ]
  rw [h2, show l + (j + 1) = l + j + 1 by omega]
  rfl
abbrev TS : TypeId := 29
abbrev spA (x y : Int) : Array Value := #[.int .i64 x, .int .i64 y]
theorem infoSp {x y : Int} : (Try.prog.info? TS).map (·.size) = some (spA x y).size := by kernel_rfl
theorem spA_one {x y : Int} : (spA x y).all (·.oneCell') = true := by simp [Value.oneCell']
theorem spA_size {x y x' y' : Int} : (spA x y).size = (spA x' y').size := rfl
theorem spA_x {x y z : Int} : (spA x y).setIfInBounds 0 (.int .i64 z) = spA z y := rfl
theorem spA_y {x y z : Int} : (spA x y).setIfInBounds 1 (.int .i64 z) = spA x z := rfl
theorem div_step15 (q t : Nat) : q / 2 ^ (t + 1) = q / 2 ^ t / 2 := by rw [Nat.div_div_eq_div_mul, ← Nat.pow_succ]
theorem kid_order (Q L : Nat) : (Q % 2 = 0 → nd Q L < nd (Q / 2) (L + 1)) ∧ (Q % 2 = 1 → nd (Q / 2) (L + 1) < nd Q L) := by
  have hp := Nat.two_pow_pos L
  constructor
  · intro h
    have h1 := nd_left (Q / 2) L
    rw [show 2 * (Q / 2) = Q by omega] at h1
    omega
  · intro h
    have h1 := nd_right (Q / 2) L
    rw [show 2 * (Q / 2) + 1 = Q by omega] at h1
    omega
theorem LieT.blk {w w' : World} {b c : Nat} {L : List (Nat × Nat)} (h : LieT w b c L) (hb : w'.heap[b]? = w.heap[b]?) (hs : w.heap.size ≤ w'.heap.size) : LieT w' b c L :=
  ⟨Nat.lt_of_lt_of_le h.1 hs, h.2.1, h.2.2.1, fun i p hp j u hu => (World.cell?_of_block (a := ⟨b, i * 3 + j, none⟩) hb).trans (h.2.2.2 i p hp j u hu)⟩
set_option maxHeartbeats 2000000 in
theorem Place15_ok (q l k : Nat) (w : World) (hq : q < 2 ^ k) (hk : l + k ≤ 16) : Calls Try.prog 12 #[.int .i64 (nd q l : Int), .int .i64 ((2 ^ (l + k) : Nat) : Int)] w fun e w' => e = .returned (.tuple #[.agg (spA (plc q l k).1 (plc q l k).2), .bool true]) ∧ Below w.heap.size w w' := by
  have HD := hid (fun W => Down14_ok q l k W hq hk)
  have HK : Hid (l + k ≤ 16) := hid hk
  have HLv : Hid (∀ i W, i < k → Calls Try.prog 24 #[.int .i64 (nd (q / 2 ^ (k - i)) (l + (k - i)) : Int)] W (RetI W ((l + (k - i) : Nat) : Int))) := hid fun i W hi => by
    have h := LevelR (nd (q / 2 ^ (k - i)) (l + (k - i)) : Int) W
    have h1 := div_lt hq (r := k - i) (by omega)
    rw [levelZ_nd (Nat.lt_of_lt_of_le h1 (Nat.pow_le_pow_right (by decide) (show k - (k - i) ≤ 16 - (l + (k - i)) by omega))) (by omega)] at h
    exact h
  have HBD : Hid (∀ i, i ≤ k → -2048 ≤ (plc (q / 2 ^ (k - i)) (l + (k - i)) i).1 ∧ (plc (q / 2 ^ (k - i)) (l + (k - i)) i).1 ≤ 2048 ∧ -2048 ≤ (plc (q / 2 ^ (k - i)) (l + (k - i)) i).2 ∧ (plc (q / 2 ^ (k - i)) (l + (k - i)) i).2 ≤ 2048) := hid fun i hi => by
    have h := plc_le (q / 2 ^ (k - i)) (l + (k - i)) i (by omega)
    omega
  have HEND : Hid (plc (q / 2 ^ (k - k)) (l + (k - k)) k = plc q l k) := hid (by rw [Nat.sub_self, Nat.pow_zero, Nat.div_one, Nat.add_zero])
  obtain ⟨x, hx⟩ : ∃ x : Int, x = (nd q l : Int) := ⟨_, rfl⟩
  obtain ⟨n, hn⟩ : ∃ n : Int, n = ((2 ^ (l + k) : Nat) : Int) := ⟨_, rfl⟩
  rw [← hx, ← hn] at HD
  rw [← hx, ← hn]
  clear hx hn hq hk
  go_enter Try.func12, Try.ntmps12
  go_wp2_with fail
  refine (HD.out _).mono ?_
  rintro e w1 ⟨b, c, rfl, hL, hb⟩
  have HL := hid hL
  have hz4 : w1.heap[w.heap.size]? = some (.cells (spA 0 0) TS (0, 0)) := (hb.block w.heap.size (by simp)).trans (heap_alloc_new w _)
  have hB1 : Below w.heap.size w w1 := ((Below.refl _ _).alloc (Nat.le_refl _) (.cells (spA 0 0) TS)).trans (hb.mono (by simp))
  have HZ4 : Hid ((w1.alloc (.cells (spA 0 0) TS)).heap[w.heap.size]? = some (.cells (spA 0 0) TS (0, 0))) := hid ((Below.heap_alloc w1 (.cells (spA 0 0) TS) w.heap.size (block_lt hz4)).trans hz4)
  have HZ7 := hid (heap_alloc_new w1 (.cells (spA 0 0) TS))
  have HB2 : Hid (Below w.heap.size w (w1.alloc (.cells (spA 0 0) TS))) := hid (hB1.alloc hB1.size _)
  have HL2 := hid (hL.on ((Below.refl w1.heap.size w1).alloc (Nat.le_refl _) (.cells (spA 0 0) TS)))
  have HG : Hid (w.heap.size < w1.heap.size) := hid (block_lt hz4)
  have HGB : Hid (b < w1.heap.size) := hid hL.1
  obtain ⟨m, hm⟩ : ∃ m : Nat, m = k + 1 := ⟨_, rfl⟩
  have HM := hid hm
  have hm0 : ((m : Int) == 0) = false := by rw [beq_eq_false_iff_ne]; omega
  rw [← hm]
  clear hL hb hz4 hB1 HD HL hm
  go_wp2
  clear hm0
  go_loopg [8] k (fun r i wr => ∃ j : Nat, j + r = k ∧ i = .int .i64 (j : Int) ∧ wr.heap[w1.heap.size]? = some (.cells (spA (plc (q / 2 ^ (k - j)) (l + (k - j)) j).1 (plc (q / 2 ^ (k - j)) (l + (k - j)) j).2) TS (0, 0)) ∧ wr.heap[w.heap.size]? = some (.cells (spA 0 0) TS (0, 0)) ∧ LieT wr b c (chain q l k) ∧ Below w.heap.size w wr)
  case atStart => exact ⟨0, by omega, rfl, HZ7.out, HZ4.out, HL2.out, HB2.out⟩
  case round =>
    clear HZ7 HZ4 HL2 HB2
    obtain ⟨j, hj, rfl, h7, h4, hl, hb⟩ := hrel
    have HJ := hid hj; have H7 := hid h7; have H4 := hid h4; have HL := hid hl; have HB := hid hb
    clear h7 h4 hb
    by_cases hlt : j < k
    · have hstep := plc_step q l k j hlt
      have hbd := HBD.out j (by omega)
      have hls : l + (k - j) ≤ 16 ∧ 1 ≤ l + (k - j) := by have := HK.out; omega
      have hsl := strN_le hls.1
      have HLj := hid (fun W => HLv.out j W hlt)
      have HSj := hid (fun W => Stride15_in (l + (k - j)) W hls.2 hls.1)
      obtain ⟨c1, -, -⟩ := hl.cells (chain_get q l k (k - j) (by omega) |> fun h => by rw [show k - (k - j) = j by omega] at h; exact h)
      have hg2 := chain_get q l k (k - (j + 1)) (by omega)
      rw [show k - (k - (j + 1)) = j + 1 by omega] at hg2
      have HG2 := hid hg2
      have hord : ((q / 2 ^ (k - (j + 1))) % 2 = 0 → nd (q / 2 ^ (k - (j + 1))) (l + (k - (j + 1))) < nd (q / 2 ^ (k - j)) (l + (k - j))) ∧ ((q / 2 ^ (k - (j + 1))) % 2 = 1 → nd (q / 2 ^ (k - j)) (l + (k - j)) < nd (q / 2 ^ (k - (j + 1))) (l + (k - (j + 1)))) := by
        obtain ⟨t, ht⟩ : ∃ t, t = k - (j + 1) := ⟨_, rfl⟩
        rw [show k - j = t + 1 by omega, ← ht, show l + (t + 1) = l + t + 1 by omega, div_step15]
        exact ⟨fun h => (kid_order _ _).1 h, fun h => (kid_order _ _).2 h⟩
      obtain ⟨p, hp⟩ : ∃ p, p = nd (q / 2 ^ (k - j)) (l + (k - j)) := ⟨_, rfl⟩
      obtain ⟨p', hp'⟩ : ∃ p, p = nd (q / 2 ^ (k - (j + 1))) (l + (k - (j + 1))) := ⟨_, rfl⟩
      obtain ⟨S, hS⟩ : ∃ p, p = strN (l + (k - j)) := ⟨_, rfl⟩
      obtain ⟨X, hX⟩ : ∃ p, p = (plc (q / 2 ^ (k - j)) (l + (k - j)) j).1 := ⟨_, rfl⟩
      obtain ⟨Y, hY⟩ : ∃ p, p = (plc (q / 2 ^ (k - j)) (l + (k - j)) j).2 := ⟨_, rfl⟩
      obtain ⟨Lv, hLv⟩ : ∃ p, p = l + (k - j) := ⟨_, rfl⟩
      simp only [← hp] at c1
      rw [← hp, ← hp'] at hord
      rw [← hS] at hstep hsl HSj
      rw [← hX, ← hY] at hstep hbd H7
      rw [← hp] at HLj
      rw [← hLv] at hstep HLj HSj
      have HPP := hid hp'; have HP0 := hid hp
      have HST := hid hstep; have HORD := hid hord; have HBS : Hid ((-2048 ≤ X ∧ X ≤ 2048 ∧ -2048 ≤ Y ∧ Y ≤ 2048) ∧ S ≤ 128) := hid ⟨hbd, hsl⟩
      have hji : (j : Int) < (k : Int) + 1 := by omega
      have hj0 : (0 : Int) ≤ (j : Int) := by omega
      have hjm : (j : Int) < (m : Int) := by have := HM.out; omega
      have hjm2 : j < m := by have := HM.out; omega
      have hjm3 : (j : Int) + 1 < (m : Int) := by have := HM.out; omega
      have hjm4 : j + 1 < m := by have := HM.out; omega
      have hj10 : (0 : Int) ≤ (j : Int) + 1 := by omega
      have hjn : ((j : Int) + 1).toNat = j + 1 := by omega
      have hwj : wrap64 ((j : Int) + 1) = (j : Int) + 1 := wrap64_in (by omega) (by have := HK.out; omega)
      have hbl := hl.1
      have HLT := hid hlt
      clear hp hp' hS hX hY hLv hstep hls hsl hbd hord hg2 hl hj hlt
      go_wp2_with fail
      refine (HLj.out _).mono ?_
      rintro e r1 ⟨rfl, hb⟩
      have HB1 := hid (HB.out.trans (hb.mono HB.out.size)); have HL1 := hid (HL.out.on hb)
      have H71 := hid ((hb.block _ (block_lt H7.out)).trans H7.out); have H41 := hid ((hb.block _ (block_lt H4.out)).trans H4.out)
      clear hb HB HL H7 H4 HLj c1 hbl
      go_wp2_with fail
      refine (HSj.out _).mono ?_
      rintro e r2 ⟨rfl, hb⟩
      have HB2 := hid (HB1.out.trans (hb.mono HB1.out.size)); have HL2 := hid (HL1.out.on hb)
      have H72 := hid ((hb.block _ (block_lt H71.out)).trans H71.out); have H42 := hid ((hb.block _ (block_lt H41.out)).trans H41.out)
      clear hb HB1 HL1 H71 H41 HSj
      obtain ⟨c1, -, -⟩ := HL2.out.cells (chain_get q l k (k - j) (by have := HLT.out; omega) |> fun h => by rw [show k - (k - j) = j by have := HLT.out; omega] at h; exact h)
      obtain ⟨c2, -, -⟩ := HL2.out.cells HG2.out
      simp only [← HPP.out, ← HP0.out] at c1 c2
      have hcX := cell_of H72.out 0 _ rfl
      have hcY := cell_of H72.out 1 _ rfl
      have hf0 : r2.frozen? ⟨w1.heap.size, 0, none⟩ = false := frozen_of_row _ _ _ _ _ H72.out
      have hf1 : r2.frozen? ⟨w1.heap.size, 1, none⟩ = false := frozen_of_row _ _ _ _ _ H72.out
      have hwn : wrap64 (-(S : Int)) = -(S : Int) := wrap64_in (by have := HBS.out; omega) (by have := HBS.out; omega)
      have hlv : Lv % 2 = 0 ∨ Lv % 2 = 1 := by omega
      have hpar : (q / 2 ^ (k - (j + 1))) % 2 = 0 ∨ (q / 2 ^ (k - (j + 1))) % 2 = 1 := by omega
      rcases hpar with hpar | hpar
      · rcases hlv with hlv | hlv
        · skip
          have hn := HORD.out.1 hpar
          have hpi : (p' : Int) < (p : Int) := by omega
          have hpn : p' < p := by omega
          have hsum : wrap64 (Y + -(S : Int)) = Y + -(S : Int) := wrap64_in (by have := HBS.out; omega) (by have := HBS.out; omega)
          have hup : decide (Lv % 2 = 0) = true := by simp; omega
          have hres : plc (q / 2 ^ (k - (j + 1))) (l + (k - (j + 1))) (j + 1) = (X, Y + -(S : Int)) := by rw [HST.out, if_pos (by omega), if_pos (by omega)]
          rw [hup]
          have HRES := hid hres
          clear hn hup hres hpar hlv
          go_wp2
          go_quiet (fail)
          go_wp2
          have hrow := block_set (show (r2.drewN nq).heap[w1.heap.size]? = _ from H72.out) 1 (.int .i64 (Y + -(S : Int)))
          rw [spA_y] at hrow
          have h42 : ((r2.drewN nq).setCell ⟨w1.heap.size, 1, none⟩ (.int .i64 (Y + -(S : Int)))).heap[w.heap.size]? = some (.cells (spA 0 0) TS (0, 0)) := by
            rw [Below.heap_setCell _ _ _ _ (show w.heap.size ≠ w1.heap.size by have := HG.out; omega)]; exact H42.out
          have hl2 : LieT ((r2.drewN nq).setCell ⟨w1.heap.size, 1, none⟩ (.int .i64 (Y + -(S : Int)))) b c (chain q l k) :=
            HL2.out.blk (by rw [Below.heap_setCell _ _ _ _ (show b ≠ w1.heap.size by have := HGB.out; omega)]; rfl) (by simp [World.setCell])
          have hb2 : Below w.heap.size w ((r2.drewN nq).setCell ⟨w1.heap.size, 1, none⟩ (.int .i64 (Y + -(S : Int)))) := (belowB_drewN HB2.out nq).setCell (show w.heap.size ≤ w1.heap.size by have := HG.out; omega) _
          have hj := HJ.out; have hlt := HLT.out
          clear hsum hpi hpn hwn hcX hcY hf0 hf1 c1 c2 hwj hjn hj10 hjm3 hjm4 hjm hjm2 hj0 hji
          go_roundg (k - j - 1)
          case measure => omega
          case rel => exact ⟨j + 1, by omega, by first | rfl | (rw [wrap64_in (x := (j : Int) + 1) (by omega) (by have := HK.out; omega)]; rfl), by rw [HRES.out]; exact hrow, h42, hl2, hb2⟩
        · skip
          have hn := HORD.out.1 hpar
          have hpi : (p' : Int) < (p : Int) := by omega
          have hpn : p' < p := by omega
          have hsum : wrap64 (X + -(S : Int)) = X + -(S : Int) := wrap64_in (by have := HBS.out; omega) (by have := HBS.out; omega)
          have hup : decide (Lv % 2 = 0) = false := by simp; omega
          have hres : plc (q / 2 ^ (k - (j + 1))) (l + (k - (j + 1))) (j + 1) = (X + -(S : Int), Y) := by rw [HST.out, if_neg (by omega), if_pos (by omega)]
          rw [hup]
          have HRES := hid hres
          clear hn hup hres hpar hlv
          go_wp2
          go_quiet (fail)
          go_wp2
          have hrow := block_set (show (r2.drewN nq).heap[w1.heap.size]? = _ from H72.out) 0 (.int .i64 (X + -(S : Int)))
          rw [spA_x] at hrow
          have h42 : ((r2.drewN nq).setCell ⟨w1.heap.size, 0, none⟩ (.int .i64 (X + -(S : Int)))).heap[w.heap.size]? = some (.cells (spA 0 0) TS (0, 0)) := by
            rw [Below.heap_setCell _ _ _ _ (show w.heap.size ≠ w1.heap.size by have := HG.out; omega)]; exact H42.out
          have hl2 : LieT ((r2.drewN nq).setCell ⟨w1.heap.size, 0, none⟩ (.int .i64 (X + -(S : Int)))) b c (chain q l k) :=
            HL2.out.blk (by rw [Below.heap_setCell _ _ _ _ (show b ≠ w1.heap.size by have := HGB.out; omega)]; rfl) (by simp [World.setCell])
          have hb2 : Below w.heap.size w ((r2.drewN nq).setCell ⟨w1.heap.size, 0, none⟩ (.int .i64 (X + -(S : Int)))) := (belowB_drewN HB2.out nq).setCell (show w.heap.size ≤ w1.heap.size by have := HG.out; omega) _
          have hj := HJ.out; have hlt := HLT.out
          clear hsum hpi hpn hwn hcX hcY hf0 hf1 c1 c2 hwj hjn hj10 hjm3 hjm4 hjm hjm2 hj0 hji
          go_roundg (k - j - 1)
          case measure => omega
          case rel => exact ⟨j + 1, by omega, by first | rfl | (rw [wrap64_in (x := (j : Int) + 1) (by omega) (by have := HK.out; omega)]; rfl), by rw [HRES.out]; exact hrow, h42, hl2, hb2⟩
      · rcases hlv with hlv | hlv
        · skip
          have hn := HORD.out.2 hpar
          have hpi : ¬ (p' : Int) < (p : Int) := by omega
          have hpn : ¬ p' < p := by omega
          have hsum : wrap64 (Y + (S : Int)) = Y + (S : Int) := wrap64_in (by have := HBS.out; omega) (by have := HBS.out; omega)
          have hup : decide (Lv % 2 = 0) = true := by simp; omega
          have hres : plc (q / 2 ^ (k - (j + 1))) (l + (k - (j + 1))) (j + 1) = (X, Y + (S : Int)) := by rw [HST.out, if_pos (by omega), if_neg (by omega)]
          rw [hup]
          have HRES := hid hres
          clear hn hup hres hpar hlv
          go_wp2
          go_quiet (fail)
          go_wp2
          have hrow := block_set (show (r2.drewN nq).heap[w1.heap.size]? = _ from H72.out) 1 (.int .i64 (Y + (S : Int)))
          rw [spA_y] at hrow
          have h42 : ((r2.drewN nq).setCell ⟨w1.heap.size, 1, none⟩ (.int .i64 (Y + (S : Int)))).heap[w.heap.size]? = some (.cells (spA 0 0) TS (0, 0)) := by
            rw [Below.heap_setCell _ _ _ _ (show w.heap.size ≠ w1.heap.size by have := HG.out; omega)]; exact H42.out
          have hl2 : LieT ((r2.drewN nq).setCell ⟨w1.heap.size, 1, none⟩ (.int .i64 (Y + (S : Int)))) b c (chain q l k) :=
            HL2.out.blk (by rw [Below.heap_setCell _ _ _ _ (show b ≠ w1.heap.size by have := HGB.out; omega)]; rfl) (by simp [World.setCell])
          have hb2 : Below w.heap.size w ((r2.drewN nq).setCell ⟨w1.heap.size, 1, none⟩ (.int .i64 (Y + (S : Int)))) := (belowB_drewN HB2.out nq).setCell (show w.heap.size ≤ w1.heap.size by have := HG.out; omega) _
          have hj := HJ.out; have hlt := HLT.out
          clear hsum hpi hpn hwn hcX hcY hf0 hf1 c1 c2 hwj hjn hj10 hjm3 hjm4 hjm hjm2 hj0 hji
          go_roundg (k - j - 1)
          case measure => omega
          case rel => exact ⟨j + 1, by omega, by first | rfl | (rw [wrap64_in (x := (j : Int) + 1) (by omega) (by have := HK.out; omega)]; rfl), by rw [HRES.out]; exact hrow, h42, hl2, hb2⟩
        · skip
          have hn := HORD.out.2 hpar
          have hpi : ¬ (p' : Int) < (p : Int) := by omega
          have hpn : ¬ p' < p := by omega
          have hsum : wrap64 (X + (S : Int)) = X + (S : Int) := wrap64_in (by have := HBS.out; omega) (by have := HBS.out; omega)
          have hup : decide (Lv % 2 = 0) = false := by simp; omega
          have hres : plc (q / 2 ^ (k - (j + 1))) (l + (k - (j + 1))) (j + 1) = (X + (S : Int), Y) := by rw [HST.out, if_neg (by omega), if_neg (by omega)]
          rw [hup]
          have HRES := hid hres
          clear hn hup hres hpar hlv
          go_wp2
          go_quiet (fail)
          go_wp2
          have hrow := block_set (show (r2.drewN nq).heap[w1.heap.size]? = _ from H72.out) 0 (.int .i64 (X + (S : Int)))
          rw [spA_x] at hrow
          have h42 : ((r2.drewN nq).setCell ⟨w1.heap.size, 0, none⟩ (.int .i64 (X + (S : Int)))).heap[w.heap.size]? = some (.cells (spA 0 0) TS (0, 0)) := by
            rw [Below.heap_setCell _ _ _ _ (show w.heap.size ≠ w1.heap.size by have := HG.out; omega)]; exact H42.out
          have hl2 : LieT ((r2.drewN nq).setCell ⟨w1.heap.size, 0, none⟩ (.int .i64 (X + (S : Int)))) b c (chain q l k) :=
            HL2.out.blk (by rw [Below.heap_setCell _ _ _ _ (show b ≠ w1.heap.size by have := HGB.out; omega)]; rfl) (by simp [World.setCell])
          have hb2 : Below w.heap.size w ((r2.drewN nq).setCell ⟨w1.heap.size, 0, none⟩ (.int .i64 (X + (S : Int)))) := (belowB_drewN HB2.out nq).setCell (show w.heap.size ≤ w1.heap.size by have := HG.out; omega) _
          have hj := HJ.out; have hlt := HLT.out
          clear hsum hpi hpn hwn hcX hcY hf0 hf1 c1 c2 hwj hjn hj10 hjm3 hjm4 hjm hjm2 hj0 hji
          go_roundg (k - j - 1)
          case measure => omega
          case rel => exact ⟨j + 1, by omega, by first | rfl | (rw [wrap64_in (x := (j : Int) + 1) (by omega) (by have := HK.out; omega)]; rfl), by rw [HRES.out]; exact hrow, h42, hl2, hb2⟩
    · have hje : j = k := by omega
      have hji : ¬ (j : Int) + 1 < (m : Int) := by have := HM.out; omega
      have hji' : ¬ j + 1 < m := by have := HM.out; omega
      have hwj : wrap64 ((j : Int) + 1) = (j : Int) + 1 := wrap64_in (by omega) (by have := HK.out; omega)
      have hfin : (plc (q / 2 ^ (k - j)) (l + (k - j)) j) = plc q l k := by rw [hje]; exact HEND.out
      rw [hfin] at H7
      obtain ⟨X, hX⟩ : ∃ p, p = (plc q l k).1 := ⟨_, rfl⟩
      obtain ⟨Y, hY⟩ : ∃ p, p = (plc q l k).2 := ⟨_, rfl⟩
      rw [← hX, ← hY] at H7
      have HX := hid hX; have HY := hid hY
      clear hlt hj hje hl hfin hX hY
      go_wp2_with (first | (with_reducible refine wpList_load_row rfl TS (.tmp 7) rfl w1.heap.size rfl TS (spA X Y) (0, 0) _ H7.out Try.underlying29 rfl infoSp ?_) | (with_reducible refine wpList_store_row rfl TS (.tmp 4) _ rfl w.heap.size (spA X Y) rfl rfl TS (spA 0 0) H4.out infoSp spA_size spA_one ?_))
      have HZ2 := setRow_heap wr w.heap.size (spA 0 0) (spA X Y) TS (0, 0) H4.out
      exact bodyPost_ret (v := .tuple #[.agg (spA X Y), .bool true]) (results_cs rfl _ _ w.heap.size TS (spA X Y) (0, 0) _ rfl HZ2 Try.underlying29 rfl infoSp _ rfl) rfl ⟨by rw [← HX.out, ← HY.out], HB.out.trans ((below_put wr w.heap.size (spA X Y) (Nat.le_refl _)))⟩
theorem Place15_no (x n : Int) (w : World) (h : ¬ inT x n) : Calls Try.prog 12 #[.int .i64 x, .int .i64 n] w fun e w' => e = .returned (.tuple #[.agg (spA 0 0), .bool false]) ∧ Below w.heap.size w w' := by
  have HD := hid (fun W => Down14_no x n W h)
  clear h
  go_enter Try.func12, Try.ntmps12
  go_wp2_with fail
  refine (HD.out _).mono ?_
  rintro e w1 ⟨rfl, rfl⟩
  have hz4 : (w.alloc (.cells (spA 0 0) TS)).heap[w.heap.size]? = some (.cells (spA 0 0) TS (0, 0)) := heap_alloc_new w _
  have HZ4 := hid ((Below.heap_alloc (w.alloc (.cells (spA 0 0) TS)) (.cells (spA 0 0) TS) w.heap.size (block_lt hz4)).trans hz4)
  have HZ7 := hid (heap_alloc_new (w.alloc (.cells (spA 0 0) TS)) (.cells (spA 0 0) TS))
  have HB : Hid (Below w.heap.size w ((w.alloc (.cells (spA 0 0) TS)).alloc (.cells (spA 0 0) TS))) := hid (((Below.refl _ _).alloc (Nat.le_refl _) (.cells (spA 0 0) TS)).alloc (by simp) _)
  clear hz4 HD
  go_wp2_with (first | (with_reducible refine wpList_load_row rfl TS (.tmp 7) rfl _ rfl TS (spA 0 0) (0, 0) _ HZ7.out Try.underlying29 rfl infoSp ?_) | (with_reducible refine wpList_store_row rfl TS (.tmp 4) _ rfl w.heap.size (spA 0 0) rfl rfl TS (spA 0 0) HZ4.out infoSp spA_size spA_one ?_))
  have HZ2 := setRow_heap _ w.heap.size (spA 0 0) (spA 0 0) TS (0, 0) HZ4.out
  exact bodyPost_ret (v := .tuple #[.agg (spA 0 0), .bool false]) (results_cs rfl _ _ w.heap.size TS (spA 0 0) (0, 0) _ rfl HZ2 Try.underlying29 rfl infoSp _ rfl) rfl ⟨rfl, HB.out.trans (below_put _ w.heap.size (spA 0 0) (Nat.le_refl _))⟩
/-- The place of any number: nought, if it is no node. -/
def placeZ (x n : Int) : Int × Int := if inB x n = true then plc (qt x.toNat) (lv x.toNat) (ht n - lv x.toNat) else (0, 0)
theorem placeZ_nd {q l k : Nat} (hq : q < 2 ^ k) (hk : l + k ≤ 16) : placeZ (nd q l : Int) ((2 ^ (l + k) : Nat) : Int) = plc q l k := by unfold placeZ; rw [if_pos (inB_nd hq hk), Int.toNat_natCast, lv_nd, qt_nd, ht_pow, Nat.add_sub_cancel_left]
theorem PlaceR15 (x n : Int) (w : World) : Calls Try.prog 12 #[.int .i64 x, .int .i64 n] w fun e w' => e = .returned (.tuple #[.agg (spA (placeZ x n).1 (placeZ x n).2), .bool (inB x n)]) ∧ Below w.heap.size w w' := by
  by_cases h : inT x n
  · rw [inB_iff.2 h]
    obtain ⟨q, l, k, hq, hk, rfl, rfl⟩ := h
    rw [placeZ_nd hq hk]
    exact Place15_ok q l k w hq hk
  · have h2 : placeZ x n = (0, 0) := by unfold placeZ; rw [if_neg (fun h2 => by rw [inB_no h] at h2; cases h2)]
    rw [inB_no h, h2]
    exact Place15_no x n w h
end Go.Proofs.Ytmipocpajglbaaa
end
section
namespace Go.Proofs.Ytmipocpajglbaaa
open Go Go.RowKit
set_option linter.unusedVariables false
set_option linter.unusedSimpArgs false
theorem placeZ_le (x n : Int) : -2048 ≤ (placeZ x n).1 ∧ (placeZ x n).1 ≤ 2048 ∧ -2048 ≤ (placeZ x n).2 ∧ (placeZ x n).2 ≤ 2048 := by
  by_cases h : inT x n
  · obtain ⟨q, l, k, hq, hk, rfl, rfl⟩ := h
    rw [placeZ_nd hq hk]
    have h := plc_le q l k hk
    omega
  · have h2 : placeZ x n = (0, 0) := by unfold placeZ; rw [if_neg (fun h2 => by rw [inB_no h] at h2; cases h2)]
    rw [h2]; decide
theorem sp_cells (w : World) (x y : Int) : (((w.alloc (.cells (spA 0 0) TS)).setRow w.heap.size (spA x y)).cell? ⟨w.heap.size, 0, none⟩ = some (.int .i64 x)) ∧ (((w.alloc (.cells (spA 0 0) TS)).setRow w.heap.size (spA x y)).cell? ⟨w.heap.size, 1, none⟩ = some (.int .i64 y)) := by
  have h := setRow_heap _ w.heap.size (spA 0 0) (spA x y) TS (0, 0) (heap_alloc_new w (.cells (spA 0 0) TS))
  exact ⟨cell_of h 0 _ rfl, cell_of h 1 _ rfl⟩
theorem sp_below (w : World) (cs : Array Value) : Below w.heap.size w ((w.alloc (.cells (spA 0 0) TS)).setRow w.heap.size cs) := ((Below.refl _ _).alloc (Nat.le_refl _) _).trans (below_put _ _ _ (Nat.le_refl _))
/-- The gap of any two. -/
def gapZ (x y n : Int) : Int := ((placeZ x n).1 - (placeZ y n).1) * ((placeZ x n).1 - (placeZ y n).1) + ((placeZ x n).2 - (placeZ y n).2) * ((placeZ x n).2 - (placeZ y n).2)
theorem sq_bound {d : Int} (h : -4096 ≤ d ∧ d ≤ 4096) : 0 ≤ d * d ∧ d * d ≤ 16777216 := by
  have h1 : (d.natAbs : Int) * (d.natAbs : Int) = d * d := by rw [← Int.natCast_mul, Int.natAbs_mul_self]
  have h2 := Nat.mul_le_mul (show d.natAbs ≤ 4096 by omega) (show d.natAbs ≤ 4096 by omega)
  rw [← h1, ← Int.natCast_mul]
  omega
set_option maxHeartbeats 2000000 in
theorem GapR15 (x y n : Int) (w : World) : Calls Try.prog 17 #[.int .i64 x, .int .i64 y, .int .i64 n] w (RetIB w (if inB x n && inB y n then gapZ x y n else 0) (inB x n && inB y n)) := by
  have HA := hid (fun W => PlaceR15 x n W)
  have HB := hid (fun W => PlaceR15 y n W)
  have hb1 := placeZ_le x n
  have hb2 := placeZ_le y n
  have HSP := hid sp_cells
  unfold gapZ
  obtain ⟨a, ha⟩ : ∃ a, a = (placeZ x n).1 := ⟨_, rfl⟩
  obtain ⟨b, hb⟩ : ∃ a, a = (placeZ x n).2 := ⟨_, rfl⟩
  obtain ⟨c, hc⟩ : ∃ a, a = (placeZ y n).1 := ⟨_, rfl⟩
  obtain ⟨d, hd⟩ : ∃ a, a = (placeZ y n).2 := ⟨_, rfl⟩
  obtain ⟨p, hp⟩ : ∃ a, a = inB x n := ⟨_, rfl⟩
  obtain ⟨r, hr⟩ : ∃ a, a = inB y n := ⟨_, rfl⟩
  rw [← ha, ← hb, ← hp] at HA
  rw [← hc, ← hd, ← hr] at HB
  rw [← ha, ← hb] at hb1
  rw [← hc, ← hd] at hb2
  rw [← ha, ← hb, ← hc, ← hd, ← hp, ← hr]
  obtain ⟨u, hu⟩ : ∃ u, u = a - c := ⟨_, rfl⟩
  obtain ⟨v, hv⟩ : ∃ u, u = b - d := ⟨_, rfl⟩
  have s1 := sq_bound (d := u) (by omega)
  have s2 := sq_bound (d := v) (by omega)
  have w1 : wrap64 (a - c) = u := (wrap64_in (by omega) (by omega)).trans hu.symm
  have w2 : wrap64 (b - d) = v := (wrap64_in (by omega) (by omega)).trans hv.symm
  rw [← hu, ← hv]
  obtain ⟨U, hU⟩ : ∃ U, U = u * u := ⟨_, rfl⟩
  obtain ⟨V, hV⟩ : ∃ U, U = v * v := ⟨_, rfl⟩
  rw [← hU] at s1
  rw [← hV] at s2
  have w3 : wrap64 (u * u) = U := by rw [← hU]; exact wrap64_in (by omega) (by omega)
  have w4 : wrap64 (v * v) = V := by rw [← hV]; exact wrap64_in (by omega) (by omega)
  have w5 : wrap64 (U + V) = U + V := wrap64_in (by omega) (by omega)
  rw [← hU, ← hV]
  obtain ⟨R, hR⟩ : ∃ R, R = (if (p && r) = true then U + V else 0) := ⟨_, rfl⟩
  rw [← hR]
  have HR := hid hR
  clear hR ha hb hc hd hp hr hb1 hb2 s1 s2 hu hv hU hV
  go_enter Try.func17, Try.ntmps17
  go_wp2_with fail
  refine (HA.out _).mono ?_
  rintro e v1 ⟨rfl, hb⟩
  have hZ := hid (heap_alloc_new v1 (.cells (spA 0 0) TS))
  obtain ⟨h0, h1⟩ := HSP.out v1 a b
  have HB2 := hid (hb.trans ((sp_below v1 (spA a b)).mono hb.size))
  have H0 := hid h0; have H1 := hid h1
  have hlt : v1.heap.size < ((v1.alloc (.cells (spA 0 0) TS)).setRow v1.heap.size (spA a b)).heap.size := by simp
  clear hb HA h0 h1
  go_wp2_with (first | (with_reducible refine wpList_store_row rfl TS (.tmp 8) _ rfl v1.heap.size (spA a b) rfl rfl TS (spA 0 0) hZ.out infoSp spA_size spA_one ?_))
  refine (HB.out _).mono ?_
  rintro e v3 ⟨rfl, hb⟩
  have hZ := hid (heap_alloc_new v3 (.cells (spA 0 0) TS))
  obtain ⟨g0, g1⟩ := HSP.out v3 c d
  have hbb := sp_below v3 (spA c d)
  have hlt3 : v1.heap.size < v3.heap.size := Nat.lt_of_lt_of_le hlt hb.size
  have h0 := (hbb.cell (p := ⟨v1.heap.size, 0, none⟩) hlt3).trans ((hb.cell (p := ⟨v1.heap.size, 0, none⟩) hlt).trans H0.out)
  have h1 := (hbb.cell (p := ⟨v1.heap.size, 1, none⟩) hlt3).trans ((hb.cell (p := ⟨v1.heap.size, 1, none⟩) hlt).trans H1.out)
  have HB3 := hid (HB2.out.trans ((hb.trans (hbb.mono hb.size)).mono HB2.out.size))
  clear hb hbb HB2 HB H0 H1 hlt
  rcases p with _ | _
  · go_wp2_with (first | (with_reducible refine wpList_store_row rfl TS (.tmp 10) _ rfl v3.heap.size (spA c d) rfl rfl TS (spA 0 0) hZ.out infoSp spA_size spA_one ?_))
    go_ret2
    exact ⟨by rw [HR.out]; rfl, HB3.out⟩
  · rcases r with _ | _
    · go_wp2_with (first | (with_reducible refine wpList_store_row rfl TS (.tmp 10) _ rfl v3.heap.size (spA c d) rfl rfl TS (spA 0 0) hZ.out infoSp spA_size spA_one ?_))
      go_ret2
      exact ⟨by rw [HR.out]; rfl, HB3.out⟩
    · go_wp2_with (first | (with_reducible refine wpList_store_row rfl TS (.tmp 10) _ rfl v3.heap.size (spA c d) rfl rfl TS (spA 0 0) hZ.out infoSp spA_size spA_one ?_))
      go_ret2
      exact ⟨by rw [HR.out, w5]; rfl, HB3.out⟩
end Go.Proofs.Ytmipocpajglbaaa
end
section
namespace Go.Proofs.Ytmipocpajglbaaa
open Go Go.RowKit
set_option linter.unusedVariables false
set_option linter.unusedSimpArgs false
/-- Turned by some quarters. -/
def rotN : Nat → Int × Int → Int × Int
  | 0, p => p
  | k + 1, p => (-(rotN k p).2, (rotN k p).1)
theorem rotN_le (k : Nat) {p : Int × Int} {B : Int} (h : -B ≤ p.1 ∧ p.1 ≤ B ∧ -B ≤ p.2 ∧ p.2 ≤ B) : -B ≤ (rotN k p).1 ∧ (rotN k p).1 ≤ B ∧ -B ≤ (rotN k p).2 ∧ (rotN k p).2 ≤ B := by
  induction k with
  | zero => exact h
  | succ k ih =>
    show -B ≤ -(rotN k p).2 ∧ -(rotN k p).2 ≤ B ∧ -B ≤ (rotN k p).1 ∧ (rotN k p).1 ≤ B
    omega
set_option maxHeartbeats 1000000 in
theorem Turned15_any (x y q : Int) (w : World) (h : -2048 ≤ x ∧ x ≤ 2048 ∧ -2048 ≤ y ∧ y ≤ 2048) : Calls Try.prog 21 #[.agg (spA x y), .int .i64 q] w fun e w' => e = .returned (.agg (spA (rotN (q % 4).toNat (x, y)).1 (rotN (q % 4).toNat (x, y)).2)) ∧ Below w.heap.size w w' := by
  obtain ⟨r, hr⟩ : ∃ r, r = Int.tmod q 4 := ⟨_, rfl⟩
  obtain ⟨k, hk⟩ : ∃ k, k = (q % 4).toNat := ⟨_, rfl⟩
  have hk4 : k ≤ 3 := by omega
  have hrk : (r < 0 ∧ r + 4 = (k : Int)) ∨ (¬ r < 0 ∧ r = (k : Int)) := by
    rw [hr, Int.tmod_eq_emod]
    have h1 : (0 : Int) ≤ q % 4 := Int.emod_nonneg _ (by decide)
    have h2 : q % 4 < 4 := Int.emod_lt_of_pos _ (by decide)
    have h3 : ((q % 4).toNat : Int) = q % 4 := Int.toNat_of_nonneg h1
    rw [hk, h3]
    have h4 : (4 : Int) ∣ q ↔ q % 4 = 0 := Int.dvd_iff_emod_eq_zero
    split
    · right; omega
    · next hc =>
      have hc2 : ¬ (0 ≤ q ∨ q % 4 = 0) := fun hd => hc (by rcases hd with hd | hd; exact .inl hd; exact .inr (h4.2 hd))
      have h5 : ¬ (0 ≤ q) := fun hd => hc2 (.inl hd)
      have h6 : ¬ (q % 4 = 0) := fun hd => hc2 (.inr hd)
      simp only [show (((4 : Int).natAbs : Nat) : Int) = 4 from rfl]
      left; omega
  have hle := fun j => rotN_le j (p := (x, y)) (B := 2048) h
  rw [← hk]
  have HLE := hid hle; have HK4 := hid hk4
  clear hk h hle
  have H2 := hid ((Below.heap_alloc (w.alloc (.cells (spA x y) TS)) (.cells (spA 0 0) TS) w.heap.size (by simp)).trans (heap_alloc_new w (.cells (spA x y) TS)))
  have H4 : Hid (((w.alloc (.cells (spA x y) TS)).alloc (.cells (spA 0 0) TS)).heap[w.heap.size + 1]? = some (.cells (spA 0 0) TS (0, 0))) := hid (by have h := heap_alloc_new (w.alloc (.cells (spA x y) TS)) (.cells (spA 0 0) TS); simpa using h)
  have HB : Hid (Below w.heap.size w ((w.alloc (.cells (spA x y) TS)).alloc (.cells (spA 0 0) TS))) := hid (((Below.refl _ _).alloc (Nat.le_refl _) _).alloc (by simp) _)
  rcases hrk with hc | hc
  · skip
    have hneg : Int.tmod q 4 < 0 := by rw [← hr]; exact hc.1
    have hwk : wrap64 (Int.tmod q 4 + 4) = (k : Int) := by rw [← hr, hc.2]; exact wrap64_in (by omega) (by omega)
    clear hc hr hk4
    go_enter Try.func21, Try.ntmps21
    go_wp2
    rw [hwk]
    clear hneg hwk
    go_loopg [6] k (fun r i wr => ∃ j : Nat, j + r = k ∧ i = .int .i64 (j : Int) ∧ wr.heap[w.heap.size]? = some (.cells (spA (rotN j (x, y)).1 (rotN j (x, y)).2) TS (0, 0)) ∧ wr.heap[w.heap.size + 1]? = some (.cells (spA 0 0) TS (0, 0)) ∧ Below w.heap.size w wr)
    case atStart => exact ⟨0, by omega, rfl, H2.out, H4.out, HB.out⟩
    case round =>
      clear H2 H4 HB
      obtain ⟨j, hj, rfl, h2, h4, hb⟩ := hrel
      have HJ := hid hj; have H2 := hid h2; have H4 := hid h4; have HB := hid hb
      have hle := HLE.out j
      clear h2 h4 hb
      by_cases hlt : j < k
      · have HNX : Hid (rotN (j + 1) (x, y) = (-(rotN j (x, y)).2, (rotN j (x, y)).1)) := hid rfl
        obtain ⟨X, hX⟩ : ∃ X, X = (rotN j (x, y)).1 := ⟨_, rfl⟩
        obtain ⟨Y, hY⟩ : ∃ X, X = (rotN j (x, y)).2 := ⟨_, rfl⟩
        rw [← hX, ← hY] at H2 HNX hle
        have hji : (j : Int) < (k : Int) := by omega
        have hcX := cell_of H2.out 0 _ rfl
        have hcY := cell_of H2.out 1 _ rfl
        have hwy : wrap64 (-Y) = -Y := wrap64_in (by omega) (by omega)
        have hwj : wrap64 ((j : Int) + 1) = (j : Int) + 1 := wrap64_in (by omega) (by have := HK4.out; omega)
        have HLT := hid hlt
        clear hX hY hle hj hlt
        go_wp2_with (first | (with_reducible refine wpList_store_row rfl TS (.tmp 2) _ rfl w.heap.size (spA (-Y) X) rfl rfl TS (spA X Y) H2.out infoSp spA_size spA_one ?_))
        have h2 := setRow_heap wr w.heap.size (spA X Y) (spA (-Y) X) TS (0, 0) H2.out
        have h4 : (wr.setRow w.heap.size (spA (-Y) X)).heap[w.heap.size + 1]? = some (.cells (spA 0 0) TS (0, 0)) := (setRow_other _ _ _ _ (by omega)).trans H4.out
        have hb : Below w.heap.size w (wr.setRow w.heap.size (spA (-Y) X)) := HB.out.trans (below_put wr w.heap.size _ (Nat.le_refl _))
        have hj := HJ.out; have hlt := HLT.out
        clear hji hcX hcY hwy hwj
        go_roundg (k - j - 1)
        case measure => omega
        case rel => exact ⟨j + 1, by omega, by first | rfl | (rw [wrap64_in (x := (j : Int) + 1) (by omega) (by have := HK4.out; omega)]; rfl), by rw [HNX.out]; exact h2, h4, hb⟩
      · have hje : j = k := by omega
        subst hje
        have hji : ¬ (j : Int) < (j : Int) := by omega
        obtain ⟨X, hX⟩ : ∃ X, X = (rotN j (x, y)).1 := ⟨_, rfl⟩
        obtain ⟨Y, hY⟩ : ∃ X, X = (rotN j (x, y)).2 := ⟨_, rfl⟩
        rw [← hX, ← hY] at H2
        have HX := hid hX; have HY := hid hY
        clear hX hY hle hj hlt HJ
        go_wp2_with (first | (with_reducible refine wpList_load_row rfl TS (.tmp 2) rfl w.heap.size rfl TS (spA X Y) (0, 0) _ H2.out Try.underlying29 rfl infoSp ?_) | (with_reducible refine wpList_store_row rfl TS (.tmp 4) _ rfl (w.heap.size + 1) (spA X Y) rfl rfl TS (spA 0 0) H4.out infoSp spA_size spA_one ?_))
        have HZ2 := setRow_heap wr (w.heap.size + 1) (spA 0 0) (spA X Y) TS (0, 0) H4.out
        exact bodyPost_ret (v := .agg (spA X Y)) (results_cell_row rfl _ _ (w.heap.size + 1) TS (spA X Y) (0, 0) _ rfl HZ2 Try.underlying29 rfl infoSp) rfl ⟨by rw [← HX.out, ← HY.out], HB.out.trans (below_put wr (w.heap.size + 1) (spA X Y) (Nat.le_succ _))⟩
  · skip
    have hneg : ¬ Int.tmod q 4 < 0 := by rw [← hr]; exact hc.1
    have hwk : Int.tmod q 4 = (k : Int) := by rw [← hr]; exact hc.2
    have hkn : ¬ (k : Int) < 0 := by clear hwk; omega
    clear hc hr hk4
    go_enter Try.func21, Try.ntmps21
    go_wp2
    skip
    clear hneg hwk hkn
    go_loopg [6] k (fun r i wr => ∃ j : Nat, j + r = k ∧ i = .int .i64 (j : Int) ∧ wr.heap[w.heap.size]? = some (.cells (spA (rotN j (x, y)).1 (rotN j (x, y)).2) TS (0, 0)) ∧ wr.heap[w.heap.size + 1]? = some (.cells (spA 0 0) TS (0, 0)) ∧ Below w.heap.size w wr)
    case atStart => exact ⟨0, by omega, rfl, H2.out, H4.out, HB.out⟩
    case round =>
      clear H2 H4 HB
      obtain ⟨j, hj, rfl, h2, h4, hb⟩ := hrel
      have HJ := hid hj; have H2 := hid h2; have H4 := hid h4; have HB := hid hb
      have hle := HLE.out j
      clear h2 h4 hb
      by_cases hlt : j < k
      · have HNX : Hid (rotN (j + 1) (x, y) = (-(rotN j (x, y)).2, (rotN j (x, y)).1)) := hid rfl
        obtain ⟨X, hX⟩ : ∃ X, X = (rotN j (x, y)).1 := ⟨_, rfl⟩
        obtain ⟨Y, hY⟩ : ∃ X, X = (rotN j (x, y)).2 := ⟨_, rfl⟩
        rw [← hX, ← hY] at H2 HNX hle
        have hji : (j : Int) < (k : Int) := by omega
        have hcX := cell_of H2.out 0 _ rfl
        have hcY := cell_of H2.out 1 _ rfl
        have hwy : wrap64 (-Y) = -Y := wrap64_in (by omega) (by omega)
        have hwj : wrap64 ((j : Int) + 1) = (j : Int) + 1 := wrap64_in (by omega) (by have := HK4.out; omega)
        have HLT := hid hlt
        clear hX hY hle hj hlt
        go_wp2_with (first | (with_reducible refine wpList_store_row rfl TS (.tmp 2) _ rfl w.heap.size (spA (-Y) X) rfl rfl TS (spA X Y) H2.out infoSp spA_size spA_one ?_))
        have h2 := setRow_heap wr w.heap.size (spA X Y) (spA (-Y) X) TS (0, 0) H2.out
        have h4 : (wr.setRow w.heap.size (spA (-Y) X)).heap[w.heap.size + 1]? = some (.cells (spA 0 0) TS (0, 0)) := (setRow_other _ _ _ _ (by omega)).trans H4.out
        have hb : Below w.heap.size w (wr.setRow w.heap.size (spA (-Y) X)) := HB.out.trans (below_put wr w.heap.size _ (Nat.le_refl _))
        have hj := HJ.out; have hlt := HLT.out
        clear hji hcX hcY hwy hwj
        go_roundg (k - j - 1)
        case measure => omega
        case rel => exact ⟨j + 1, by omega, by first | rfl | (rw [wrap64_in (x := (j : Int) + 1) (by omega) (by have := HK4.out; omega)]; rfl), by rw [HNX.out]; exact h2, h4, hb⟩
      · have hje : j = k := by omega
        subst hje
        have hji : ¬ (j : Int) < (j : Int) := by omega
        obtain ⟨X, hX⟩ : ∃ X, X = (rotN j (x, y)).1 := ⟨_, rfl⟩
        obtain ⟨Y, hY⟩ : ∃ X, X = (rotN j (x, y)).2 := ⟨_, rfl⟩
        rw [← hX, ← hY] at H2
        have HX := hid hX; have HY := hid hY
        clear hX hY hle hj hlt HJ
        go_wp2_with (first | (with_reducible refine wpList_load_row rfl TS (.tmp 2) rfl w.heap.size rfl TS (spA X Y) (0, 0) _ H2.out Try.underlying29 rfl infoSp ?_) | (with_reducible refine wpList_store_row rfl TS (.tmp 4) _ rfl (w.heap.size + 1) (spA X Y) rfl rfl TS (spA 0 0) H4.out infoSp spA_size spA_one ?_))
        have HZ2 := setRow_heap wr (w.heap.size + 1) (spA 0 0) (spA X Y) TS (0, 0) H4.out
        exact bodyPost_ret (v := .agg (spA X Y)) (results_cell_row rfl _ _ (w.heap.size + 1) TS (spA X Y) (0, 0) _ rfl HZ2 Try.underlying29 rfl infoSp) rfl ⟨by rw [← HX.out, ← HY.out], HB.out.trans (below_put wr (w.heap.size + 1) (spA X Y) (Nat.le_succ _))⟩
end Go.Proofs.Ytmipocpajglbaaa
end
section
namespace Go.Proofs.Ytmipocpajglbaaa
open Go Go.RowKit
set_option linter.unusedVariables false
set_option linter.unusedSimpArgs false
theorem guard_spot (x y : Operand) (xs ys : Array Value) (w : World) : (eqGuard .eql TS x y (.agg xs) (.agg ys)).run Try.prog w = .ok () w := run_eqGuard_agg w _ _ _ _ _ _ (by kernel_rfl)
/-- The first node at a place. -/
def atF (p : Int × Int) (n : Int) : Option Nat := (List.range (2 * n - 1).toNat).find? fun x => placeZ (x : Int) n == p
def atZ (p : Int × Int) (n : Int) : Int := if fitB n = true then (match atF p n with | some x => (x : Int) | none => 0) else 0
def atB (p : Int × Int) (n : Int) : Bool := fitB n && (atF p n).isSome
theorem atF_some {p : Int × Int} {n : Int} {x : Nat} (h1 : placeZ (x : Int) n = p) (h2 : (x : Int) < 2 * n - 1) (h3 : ∀ j : Nat, j < x → placeZ (j : Int) n ≠ p) : atF p n = some x := by
  unfold atF
  rw [List.find?_range_eq_some]
  exact ⟨by simpa using h1, List.mem_range.2 (by omega), fun j hj => by simpa using h3 j hj⟩
theorem atF_none {p : Int × Int} {n : Int} (h : ∀ j : Nat, (j : Int) < 2 * n - 1 → placeZ (j : Int) n ≠ p) : atF p n = none := by
  unfold atF
  rw [List.find?_range_eq_none]
  intro j hj
  simpa using h j (by omega)
set_option maxHeartbeats 1000000 in
theorem At15_any (X Y n : Int) (w : World) : Calls Try.prog 15 #[.agg (spA X Y), .int .i64 n] w (RetIB w (atZ (X, Y) n) (atB (X, Y) n)) := by
  have HF := hid (fun W => Fits14_any n W)
  by_cases hf : fitB n = true
  · rw [hf] at HF
    have hb : 1 ≤ n ∧ n ≤ 65536 := by
      obtain ⟨j, h1, rfl⟩ := (fitB_iff n).1 hf
      have := pow_le16 h1
      have := Nat.one_le_two_pow (n := j)
      omega
    obtain ⟨m, rfl⟩ := Int.eq_ofNat_of_zero_le (show 0 ≤ n by omega)
    have hw1 : wrap64 (2 * (m : Int)) = 2 * (m : Int) := wrap64_in (by omega) (by omega)
    have hw2 : wrap64 (2 * (m : Int) - 2) = 2 * (m : Int) - 2 := wrap64_in (by omega) (by omega)
    have HFB := hid hf; have HBB := hid hb
    clear hf hb
    go_enter Try.func15, Try.ntmps15
    go_wp2_with fail
    refine (HF.out _).mono ?_
    rintro e w1 ⟨rfl, rfl⟩
    have HROW := hid (heap_alloc_new w (.cells (spA X Y) TS))
    have HB : Hid (Below w.heap.size w (w.alloc (.cells (spA X Y) TS))) := hid ((Below.refl _ _).alloc (Nat.le_refl _) _)
    have HP := hid (fun (j : Nat) W => PlaceR15 (j : Int) (m : Int) W)
    have HI : Hid (∀ j : Nat, (j : Int) < 2 * (m : Int) - 1 → inB (j : Int) (m : Int) = true) := hid fun j hj => by
      have h := HFB.out
      unfold inB
      rw [h, decide_eq_true (show (0 : Int) ≤ (j : Int) by omega), decide_eq_true (show (j : Int) ≤ 2 * (m : Int) - 2 by omega)]
      rfl
    have HG := hid guard_spot
    go_wp2
    go_loopg [6] (2 * m - 1) (fun r x wr => ∃ j : Nat, j + r = 2 * m - 1 ∧ x = .int .i64 (j : Int) ∧ (∀ i : Nat, i < j → placeZ (i : Int) (m : Int) ≠ (X, Y)) ∧ wr.heap[w.heap.size]? = some (.cells (spA X Y) TS (0, 0)) ∧ Below w.heap.size w wr)
    case atStart => exact ⟨0, by have := HBB.out; omega, rfl, fun i hi => by omega, HROW.out, HB.out⟩
    case round =>
      clear HROW HB
      obtain ⟨j, hj, rfl, hno, hrow, hb⟩ := hrel
      have HNO := hid hno; have HROW := hid hrow; have HB := hid hb; have HJ := hid hj
      by_cases hlt : (j : Int) < 2 * (m : Int) - 1
      · have hle : (j : Int) ≤ 2 * (m : Int) - 2 := by omega
        have HPj := hid (HP.out j wr)
        rw [HI.out j hlt] at HPj
        obtain ⟨PX, hPX⟩ : ∃ a, a = (placeZ (j : Int) (m : Int)).1 := ⟨_, rfl⟩
        obtain ⟨PY, hPY⟩ : ∃ a, a = (placeZ (j : Int) (m : Int)).2 := ⟨_, rfl⟩
        rw [← hPX, ← hPY] at HPj
        have HPP : Hid (placeZ (j : Int) (m : Int) = (PX, PY)) := hid (by rw [hPX, hPY])
        have hwj : wrap64 ((j : Int) + 1) = (j : Int) + 1 := wrap64_in (by omega) (by have := HBB.out; omega)
        have HLT := hid hlt
        clear hPX hPY hj hno hrow hb hlt
        go_wp2_with fail
        refine HPj.out.mono ?_
        rintro e w2 ⟨rfl, hb⟩
        have hZ := hid (heap_alloc_new w2 (.cells (spA 0 0) TS))
        have hrow2 := (hb.block _ (block_lt HROW.out)).trans HROW.out
        have hlt2 := block_lt hrow2
        have hrow3 : ((w2.alloc (.cells (spA 0 0) TS)).setRow w2.heap.size (spA PX PY)).heap[w.heap.size]? = some (.cells (spA X Y) TS (0, 0)) := (setRow_other _ _ _ _ (by omega)).trans ((Below.heap_alloc w2 (.cells (spA 0 0) TS) w.heap.size hlt2).trans hrow2)
        have HR3 := hid hrow3
        have HZ3 := hid (setRow_heap _ w2.heap.size (spA 0 0) (spA PX PY) TS (0, 0) hZ.out)
        have HB3 : Hid (Below w.heap.size w ((w2.alloc (.cells (spA 0 0) TS)).setRow w2.heap.size (spA PX PY))) := hid (HB.out.trans ((hb.trans ((sp_below w2 (spA PX PY)).mono hb.size)).mono HB.out.size))
        clear hb hrow2 hlt2 hrow3 HROW HB HPj
        go_wp2_with (first | (with_reducible refine wpList_store_row rfl TS (.tmp 7) _ rfl w2.heap.size (spA PX PY) rfl rfl TS (spA 0 0) hZ.out infoSp spA_size spA_one ?_) | (with_reducible refine wpList_load_row rfl TS (.tmp 7) rfl w2.heap.size rfl TS (spA PX PY) (0, 0) _ HZ3.out Try.underlying29 rfl infoSp ?_) | (with_reducible refine wpList_load_row rfl TS (.tmp 2) rfl w.heap.size rfl TS (spA X Y) (0, 0) _ HR3.out Try.underlying29 rfl infoSp ?_))
        · rename_i e1 e2
          have hat : atF (X, Y) (m : Int) = some j := atF_some (by rw [HPP.out, e1, e2]) HLT.out HNO.out
          have h1 : atZ (X, Y) (m : Int) = (j : Int) := by unfold atZ; rw [if_pos HFB.out, hat]
          have h2 : atB (X, Y) (m : Int) = true := by unfold atB; rw [HFB.out, hat]; rfl
          go_ret2
          exact ⟨by rw [h1, h2]; rfl, by have h := HB3.out; rw [e1, e2] at h; exact h⟩
        all_goals
          have hne : ∀ i : Nat, i < j + 1 → placeZ (i : Int) (m : Int) ≠ (X, Y) := fun i hi => by
            rcases Nat.lt_or_ge i j with h | h
            · exact HNO.out i h
            · obtain rfl : i = j := by omega
              rw [HPP.out]
              intro hc
              injection hc with c1 c2
              first | exact absurd c2 (by assumption) | exact absurd c1 (by assumption)
          have hj := HJ.out; have hlt := HLT.out
          go_roundg (2 * m - 1 - (j + 1))
          case measure => clear hwj hw1 hw2; omega
          case rel => exact ⟨j + 1, by clear hwj hw1 hw2; omega, by first | rfl | (rw [hwj]; rfl), hne, by have h := HR3.out; first | exact h | (rw [‹PX = X›] at h; exact h), by have h := HB3.out; first | exact h | (rw [‹PX = X›] at h; exact h)⟩
      · have hge : ¬ (j : Int) ≤ 2 * (m : Int) - 2 := by omega
        have hat : atF (X, Y) (m : Int) = none := atF_none fun i hi => hno i (by omega)
        have h1 : atZ (X, Y) (m : Int) = 0 := by unfold atZ; rw [if_pos HFB.out, hat]
        have h2 : atB (X, Y) (m : Int) = false := by unfold atB; rw [HFB.out, hat]; rfl
        have H12 := hid (And.intro h1 h2)
        clear hj hno hrow hb hlt hat h1 h2
        go_wp2
        go_ret2
        exact ⟨by rw [H12.out.1, H12.out.2]; rfl, HB.out⟩
  · have hff : fitB n = false := by simpa using hf
    have h1 : atZ (X, Y) n = 0 := by unfold atZ; rw [hff]; rfl
    have h2 : atB (X, Y) n = false := by unfold atB; rw [hff]; rfl
    rw [hff] at HF
    rw [h1, h2]
    have HB : Hid (Below w.heap.size w (w.alloc (.cells (spA X Y) TS))) := hid ((Below.refl _ _).alloc (Nat.le_refl _) _)
    clear hf hff h1 h2
    go_enter Try.func15, Try.ntmps15
    go_wp2_with fail
    refine (HF.out _).mono ?_
    rintro e w1 ⟨rfl, rfl⟩
    go_wp2
    go_ret2
    exact ⟨rfl, HB.out⟩
end Go.Proofs.Ytmipocpajglbaaa
end
section
namespace Go.Proofs.Ytmipocpajglbaaa
open Go Go.RowKit
set_option linter.unusedVariables false
set_option linter.unusedSimpArgs false
/-- What Gap answers; which of some gaps is the first of the greatest. -/
def gpZ (x y n : Int) : Int := if inB x n && inB y n then gapZ x y n else 0
def topB (g : List Int) (i : Nat) : Bool := (List.range g.length).all fun k => !(decide (g.getD i 0 < g.getD k 0) || (decide (k < i) && g.getD k 0 == g.getD i 0))
def badB (g : List Int) (i k : Nat) : Bool := decide (g.getD i 0 < g.getD k 0) || (decide (k < i) && g.getD k 0 == g.getD i 0)
def preB (g : List Int) (i k : Nat) : Bool := (List.range k).all fun k => !badB g i k
theorem preB_step (g : List Int) (i k : Nat) : preB g i (k + 1) = (preB g i k && !badB g i k) := by
  unfold preB
  rw [List.range_succ, List.all_append]
  simp
theorem preB_all (g : List Int) (i : Nat) : preB g i g.length = topB g i := rfl
def topF (g : List Int) : Option Nat := (List.range g.length).find? (topB g)
def farB (x : Int) (l : List Int) (n : Int) : Bool := inB x n && l.all fun y => inB y n
def farI (x : Int) (l : List Int) (n : Int) : Option Nat := if farB x l n = true then topF (l.map fun y => gpZ x y n) else none
def farZ (x : Int) (l : List Int) (n : Int) : Int := match farI x l n with | some i => l.getD i 0 | none => 0
theorem topB_no {g : List Int} {i k : Nat} (hk : k < g.length) (h : g.getD i 0 < g.getD k 0 ∨ (k < i ∧ g.getD k 0 = g.getD i 0)) : topB g i = false := by
  unfold topB
  rw [Bool.eq_false_iff]
  intro hc
  have h2 : (!(decide (g.getD i 0 < g.getD k 0) || (decide (k < i) && g.getD k 0 == g.getD i 0))) = true := List.all_eq_true.1 hc k (List.mem_range.2 hk)
  rcases h with h | ⟨h, h3⟩
  · rw [decide_eq_true h, Bool.true_or] at h2; cases h2
  · rw [decide_eq_true h, h3, beq_self_eq_true, Bool.and_true, Bool.or_true] at h2; cases h2
theorem topB_yes {g : List Int} {i : Nat} (h : ∀ k, k < g.length → ¬ (g.getD i 0 < g.getD k 0 ∨ (k < i ∧ g.getD k 0 = g.getD i 0))) : topB g i = true := by
  unfold topB
  rw [List.all_eq_true]
  intro k hk
  have h2 := h k (List.mem_range.1 hk)
  by_cases h3 : g.getD i 0 < g.getD k 0
  · exact absurd (.inl h3) h2
  · rw [decide_eq_false h3]
    by_cases h4 : k < i
    · rw [decide_eq_true h4]
      have h5 : ¬ g.getD k 0 = g.getD i 0 := fun h5 => h2 (.inr ⟨h4, h5⟩)
      rw [beq_eq_false_iff_ne.2 h5]; rfl
    · rw [decide_eq_false h4]; rfl
theorem topF_some {g : List Int} {i : Nat} (h1 : i < g.length) (h2 : topB g i = true) (h3 : ∀ j, j < i → topB g j = false) : topF g = some i := by
  unfold topF
  rw [List.find?_range_eq_some]
  exact ⟨h2, List.mem_range.2 h1, fun j hj => by rw [h3 j hj]; rfl⟩
theorem topF_none {g : List Int} (h : ∀ j, j < g.length → topB g j = false) : topF g = none := by
  unfold topF
  rw [List.find?_range_eq_none]
  exact fun j hj => by rw [h j hj]; rfl
theorem all_step {l : List Int} {n : Int} {j : Nat} (h : j < l.length) : (l.take (j + 1)).all (fun y => inB y n) = ((l.take j).all (fun y => inB y n) && inB l[j] n) := by
  rw [List.take_succ_eq_append_getElem h, List.all_append]
  simp
theorem gap_le (x y n : Int) : 0 ≤ gpZ x y n ∧ gpZ x y n ≤ 33554432 := by
  unfold gpZ gapZ
  have h1 := placeZ_le x n
  have h2 := placeZ_le y n
  split
  · have h3 := sq_bound (d := (placeZ x n).1 - (placeZ y n).1) (by omega)
    have h4 := sq_bound (d := (placeZ x n).2 - (placeZ y n).2) (by omega)
    obtain ⟨U, hU⟩ : ∃ U, U = ((placeZ x n).1 - (placeZ y n).1) * ((placeZ x n).1 - (placeZ y n).1) := ⟨_, rfl⟩
    obtain ⟨V, hV⟩ : ∃ U, U = ((placeZ x n).2 - (placeZ y n).2) * ((placeZ x n).2 - (placeZ y n).2) := ⟨_, rfl⟩
    rw [← hU] at h3 ⊢
    rw [← hV] at h4 ⊢
    omega
  · omega
set_option maxHeartbeats 2000000 in
theorem Far15_any (x n : Int) (A : Option Addr) (c : Nat) (l : List Int) (w : World) (hA : Lie w w.heap.size A (izs l)) (hm : l.length ≤ 1000000) :
    Calls Try.prog 19 #[.int .i64 x, .slice A l.length c, .int .i64 n] w (RetIB w (farZ x l n) (farI x l n).isSome) := by
  have HP := hid (fun x W => PlaceR15 x n W)
  have HGP : Hid (∀ y W, Calls Try.prog 17 #[.int .i64 x, .int .i64 y, .int .i64 n] W (RetIB W (gpZ x y n) (inB x n && inB y n))) := hid fun y W => GapR15 x y n W
  have HL := hid hA; have HM := hid hm
  obtain ⟨px, hpx⟩ : ∃ p, p = inB x n := ⟨_, rfl⟩
  have HPX := hid (fun W => PlaceR15 x n W)
  obtain ⟨X0, hX0⟩ : ∃ p, p = (placeZ x n).1 := ⟨_, rfl⟩
  obtain ⟨Y0, hY0⟩ : ∃ p, p = (placeZ x n).2 := ⟨_, rfl⟩
  rw [← hpx, ← hX0, ← hY0] at HPX
  have HX := hid hpx
  clear hA hm hpx hX0 hY0
  go_enter Try.func19, Try.ntmps19
  go_wp2_with fail
  refine (HPX.out _).mono ?_
  rintro e w2 ⟨rfl, hb⟩
  have hZ := hid (heap_alloc_new w2 (.cells (spA 0 0) TS))
  have HB : Hid (Below w.heap.size w ((w2.alloc (.cells (spA 0 0) TS)).setRow w2.heap.size (spA X0 Y0))) := hid (hb.trans ((sp_below w2 (spA X0 Y0)).mono hb.size))
  clear hb HPX
  go_wp2_with (first | (with_reducible refine wpList_store_row rfl TS (.tmp 8) _ rfl w2.heap.size (spA X0 Y0) rfl rfl TS (spA 0 0) hZ.out infoSp spA_size spA_one ?_))
  go_loopg [9, 10] l.length (fun r ok i wr => ∃ j : Nat, j + r = l.length ∧ ok = .bool (px && (l.take j).all fun y => inB y n) ∧ i = .int .i64 (j : Int) ∧ Below w.heap.size w wr)
  case atStart => exact ⟨0, by omega, by simp, rfl, HB.out⟩
  case round =>
    clear HB hZ
    obtain ⟨j, hj, rfl, rfl, hb⟩ := hrel
    have HB := hid hb; have HJ := hid hj
    clear hb
    by_cases hlt : j < l.length
    · have hji : (j : Int) < (l.length : Int) := by omega
      have hj0 : (0 : Int) ≤ (j : Int) := by omega
      have hwj : wrap64 ((j : Int) + 1) = (j : Int) + 1 := wrap64_in (by omega) (by have := HM.out; omega)
      obtain ⟨b, o, hAe, hbl, hc⟩ := (HL.out.below HB.out).numZ hlt
      have HST := hid (all_step (n := n) hlt)
      obtain ⟨y, hy⟩ : ∃ y, y = l[j] := ⟨_, rfl⟩
      rw [← hy] at hc HST
      have HPj := hid (fun W => HP.out y W)
      obtain ⟨py, hpy⟩ : ∃ p, p = inB y n := ⟨_, rfl⟩
      obtain ⟨PX, hPX⟩ : ∃ a, a = (placeZ y n).1 := ⟨_, rfl⟩
      obtain ⟨PY, hPY⟩ : ∃ a, a = (placeZ y n).2 := ⟨_, rfl⟩
      rw [← hPX, ← hPY, ← hpy] at HPj
      rw [← hpy] at HST
      obtain ⟨pa, hpa⟩ : ∃ p, p = (px && (l.take j).all fun y => inB y n) := ⟨_, rfl⟩
      have HNX : Hid ((px && (l.take (j + 1)).all fun y => inB y n) = (pa && py)) := hid (by rw [HST.out, ← Bool.and_assoc, ← hpa])
      rw [← hpa]
      have HLT := hid hlt
      have HAE := hid hAe
      clear hPX hPY hpy hpa hy hj hlt HST
      subst hAe
      go_wp2_with fail
      refine (HPj.out _).mono ?_
      rintro e w3 ⟨rfl, hb⟩
      have hZ := hid (heap_alloc_new w3 (.cells (spA 0 0) TS))
      have HB3 : Hid (Below w.heap.size w ((w3.alloc (.cells (spA 0 0) TS)).setRow w3.heap.size (spA PX PY))) := hid (HB.out.trans ((hb.trans ((sp_below w3 (spA PX PY)).mono hb.size)).mono HB.out.size))
      clear hb HB HPj
      rcases pa with _ | _
      · go_wp2_with (first | (with_reducible refine wpList_store_row rfl TS (.tmp 11) _ rfl w3.heap.size (spA PX PY) rfl rfl TS (spA 0 0) hZ.out infoSp spA_size spA_one ?_))
        have hj := HJ.out; have hlt := HLT.out
        go_roundg (l.length - (j + 1))
        case measure => clear hwj; omega
        case rel => exact ⟨j + 1, by clear hwj; omega, by rw [HNX.out]; rfl, by first | rfl | (rw [hwj]; rfl), HB3.out⟩
      · go_wp2_with (first | (with_reducible refine wpList_store_row rfl TS (.tmp 11) _ rfl w3.heap.size (spA PX PY) rfl rfl TS (spA 0 0) hZ.out infoSp spA_size spA_one ?_))
        have hj := HJ.out; have hlt := HLT.out
        go_roundg (l.length - (j + 1))
        case measure => clear hwj; omega
        case rel => exact ⟨j + 1, by clear hwj; omega, by rw [HNX.out]; first | rfl | simp, by first | rfl | (rw [hwj]; rfl), HB3.out⟩
    · have hge : ¬ (j : Int) < (l.length : Int) := by omega
      have hall : (px && (l.take j).all fun y => inB y n) = farB x l n := by
        unfold farB
        rw [List.take_of_length_le (by omega), ← HX.out]
      rw [hall]
      by_cases hf : farB x l n = true
      · rw [hf]
        have HF := hid hf
        clear hall hf hlt
        obtain ⟨G, hG⟩ : ∃ G, G = l.map fun y => gpZ x y n := ⟨_, rfl⟩
        have HGL : Hid (G.length = l.length) := hid (by rw [hG, List.length_map])
        have HGE : Hid (∀ i (h : i < l.length), gpZ x l[i] n = G.getD i 0) := hid fun i h => by
          rw [hG, List.getD_eq_getElem?_getD, List.getElem?_map, List.getElem?_eq_getElem h]; rfl
        have HFI : Hid (farI x l n = topF G) := hid (by unfold farI; rw [if_pos HF.out, hG])
        clear hG
        go_wp2
        go_loopg [13] l.length (fun r i wr => ∃ j : Nat, j + r = l.length ∧ i = .int .i64 (j : Int) ∧ (∀ i : Nat, i < j → topB G i = false) ∧ Below w.heap.size w wr)
        case atStart => exact ⟨0, by omega, rfl, fun i hi => by omega, HB.out⟩
        case round =>
          clear HB HJ hge HP
          rename_i j0 _ _ _ _
          obtain ⟨j, hj, rfl, hno, hb⟩ := hrel
          have HB := hid hb; have HJ := hid hj; have HNO := hid hno
          clear hb hno
          by_cases hlt : j < l.length
          · have hji : (j : Int) < (l.length : Int) := by omega
            have hj0 : (0 : Int) ≤ (j : Int) := by omega
            obtain ⟨b, o, hAe, hbl, hc⟩ := (HL.out.below HB.out).numZ hlt
            have HGj := hid (HGP.out l[j])
            rw [HGE.out j hlt] at HGj
            obtain ⟨y, hy⟩ : ∃ y, y = l[j] := ⟨_, rfl⟩
            rw [← hy] at hc HGj
            have HY : Hid (l.getD j 0 = y) := hid (by rw [hy, List.getD_eq_getElem?_getD, List.getElem?_eq_getElem hlt]; rfl)
            obtain ⟨gj, hgj⟩ : ∃ y, y = G.getD j 0 := ⟨_, rfl⟩
            rw [← hgj] at HGj
            obtain ⟨bj, hbj⟩ : ∃ t, t = (inB x n && inB y n) := ⟨_, rfl⟩
            rw [← hbj] at HGj
            have HGJ := hid hgj
            have HLT := hid hlt
            clear hbj hgj hy hj hlt
            subst hAe
            go_wp2_with fail
            refine (HGj.out _).mono ?_
            rintro e w3 ⟨rfl, hb⟩
            have HB3 : Hid (Below w.heap.size w w3) := hid (HB.out.trans (hb.mono HB.out.size))
            clear hb HB HGj hc hbl
            go_wp2
            go_loopg [16, 17] l.length (fun r f i wr => ∃ k : Nat, k + r = l.length ∧ f = .bool (preB G j k) ∧ i = .int .i64 (k : Int) ∧ Below w.heap.size w wr)
            case atStart => exact ⟨0, by omega, rfl, rfl, HB3.out⟩
            case round =>
              clear HB3
              obtain ⟨k, hk, rfl, rfl, hb⟩ := hrel
              have HB := hid hb; have HK := hid hk
              clear hb
              by_cases hltk : k < l.length
              · have hki : (k : Int) < (l.length : Int) := by omega
                have hk0 : (0 : Int) ≤ (k : Int) := by omega
                have hwk : wrap64 ((k : Int) + 1) = (k : Int) + 1 := wrap64_in (by omega) (by have := HM.out; omega)
                obtain ⟨b', o', hAe, hbl, hc⟩ := (HL.out.below HB.out).numZ hltk
                have HGk := hid (HGP.out l[k])
                rw [HGE.out k hltk] at HGk
                obtain ⟨y', hy'⟩ : ∃ y, y = l[k] := ⟨_, rfl⟩
                rw [← hy'] at hc HGk
                obtain ⟨gk', hgk'⟩ : ∃ y, y = G.getD k 0 := ⟨_, rfl⟩
                rw [← hgk'] at HGk
                obtain ⟨bk, hbk⟩ : ∃ t, t = (inB x n && inB y' n) := ⟨_, rfl⟩
                rw [← hbk] at HGk
                have HBAD : Hid (badB G j k = (decide (gj < gk') || (decide (k < j) && gk' == gj))) := hid (by unfold badB; rw [← hgk', ← HGJ.out])
                have HLTK := hid hltk
                clear hbk hgk' hy' hk hltk
                obtain ⟨hbe, hoe⟩ : b' = b ∧ o' = o := by
                  injection hAe with h1
                  injection h1 with h1 h2
                  exact ⟨h1.symm, h2.symm⟩
                subst hbe hoe
                clear hAe
                go_wp2_with fail
                refine (HGk.out _).mono ?_
                rintro e w4 ⟨rfl, hb⟩
                have HB4 : Hid (Below w.heap.size w w4) := hid (HB.out.trans (hb.mono HB.out.size))
                clear hb HB HGk
                have hd1 : gj < gk' ∨ ¬ gj < gk' := by omega
                have hd2 : (k : Int) < (j : Int) ∨ ¬ (k : Int) < (j : Int) := by omega
                have hd3 : gk' = gj ∨ ¬ gk' = gj := by omega
                have hkj : decide (k < j) = decide ((k : Int) < (j : Int)) := by
                  by_cases h : k < j
                  · rw [decide_eq_true h, decide_eq_true (by omega)]
                  · rw [decide_eq_false h, decide_eq_false (by omega)]
                rw [hkj] at HBAD
                clear hkj
                rcases hd1 with d1 | d1
                · clear hd2 hd3
                  have HST : Hid (preB G j (k + 1) = false) := hid (by rw [preB_step, HBAD.out, decide_eq_true d1]; simp)
                  go_wp2
                  have hk := HK.out; have hltk := HLTK.out
                  go_roundg (l.length - (k + 1))
                  case measure => clear hwk; omega
                  case rel => exact ⟨k + 1, by clear hwk; omega, by rw [HST.out], by first | rfl | (rw [hwk]; rfl), HB4.out⟩
                · rcases hd2 with d2 | d2
                  · rcases hd3 with d3 | d3
                    · have d4 : (gk' == gj) = true := beq_iff_eq.2 d3
                      have HST : Hid (preB G j (k + 1) = false) := hid (by rw [preB_step, HBAD.out, decide_eq_false d1, decide_eq_true d2, d4]; simp)
                      go_wp2
                      have hk := HK.out; have hltk := HLTK.out
                      go_roundg (l.length - (k + 1))
                      case measure => clear hwk; omega
                      case rel => exact ⟨k + 1, by clear hwk; omega, by rw [HST.out], by first | rfl | (rw [hwk]; rfl), HB4.out⟩
                    · have d4 : (gk' == gj) = false := beq_eq_false_iff_ne.2 d3
                      have HST : Hid (preB G j (k + 1) = preB G j k) := hid (by rw [preB_step, HBAD.out, decide_eq_false d1, decide_eq_true d2, d4]; simp)
                      go_wp2
                      have hk := HK.out; have hltk := HLTK.out
                      go_roundg (l.length - (k + 1))
                      case measure => clear hwk; omega
                      case rel => exact ⟨k + 1, by clear hwk; omega, by rw [HST.out], by first | rfl | (rw [hwk]; rfl), HB4.out⟩
                  · clear hd3
                    have HST : Hid (preB G j (k + 1) = preB G j k) := hid (by rw [preB_step, HBAD.out, decide_eq_false d1, decide_eq_false d2]; simp)
                    go_wp2
                    have hk := HK.out; have hltk := HLTK.out
                    go_roundg (l.length - (k + 1))
                    case measure => clear hwk; omega
                    case rel => exact ⟨k + 1, by clear hwk; omega, by rw [HST.out], by first | rfl | (rw [hwk]; rfl), HB4.out⟩
              · have hge : ¬ (k : Int) < (l.length : Int) := by omega
                have hke : k = G.length := by have := HGL.out; omega
                have htop : preB G j k = topB G j := by rw [hke]; exact preB_all G j
                rw [htop]
                have hwj : wrap64 ((j : Int) + 1) = (j : Int) + 1 := wrap64_in (by have := HM.out; omega) (by have := HM.out; omega)
                obtain ⟨tb, htb⟩ : ∃ t, t = topB G j := ⟨_, rfl⟩
                have HTB := hid htb
                rw [← htb]
                obtain ⟨b', o', hAe, hbl, hc⟩ := (HL.out.below HB.out).numZ HLT.out
                obtain ⟨hbe, hoe⟩ : b' = b ∧ o' = o := by
                  injection hAe with h1
                  injection h1 with h1 h2
                  exact ⟨h1.symm, h2.symm⟩
                subst hbe hoe
                have hc2 : wr.cell? ⟨b', o' + j, none⟩ = some (.int .i64 y) := by
                  rw [hc, ← HY.out, List.getD_eq_getElem?_getD, List.getElem?_eq_getElem HLT.out]; rfl
                clear hc hAe hke htop hk hltk htb
                rcases tb with _ | _
                · go_wp2
                  have hj := HJ.out; have hlt := HLT.out
                  go_roundg (l.length - (j + 1))
                  case measure => clear hwj; omega
                  case rel => exact ⟨j + 1, by clear hwj; omega, by first | rfl | (rw [hwj]; rfl), fun i hi => by
                    rcases Nat.lt_or_ge i j with h | h
                    · exact HNO.out i h
                    · obtain rfl : i = j := by clear hwj; omega
                      exact HTB.out.symm, HB.out⟩
                · have hfi : farI x l n = some j := by rw [HFI.out]; exact topF_some (by rw [HGL.out]; exact HLT.out) HTB.out.symm HNO.out
                  have hfz : farZ x l n = y := by unfold farZ; rw [hfi]; exact HY.out
                  have HF2 := hid (And.intro hfi hfz)
                  clear hfi hfz
                  go_wp2
                  go_ret2
                  exact ⟨by rw [HF2.out.1, HF2.out.2]; rfl, HB.out⟩
          · have hge : ¬ (j : Int) < (l.length : Int) := by omega
            have hfi : farI x l n = none := by rw [HFI.out]; exact topF_none fun i hi => HNO.out i (by have := HGL.out; omega)
            have hfz : farZ x l n = 0 := by unfold farZ; rw [hfi]
            have HF2 := hid (And.intro hfi hfz)
            clear hfi hfz hj hlt
            go_wp2
            go_ret2
            exact ⟨by rw [HF2.out.1, HF2.out.2]; rfl, HB.out⟩
      · have hff : farB x l n = false := by simpa using hf
        have h1 : farI x l n = none := by unfold farI; rw [if_neg hf]
        have h2 : farZ x l n = 0 := by unfold farZ; rw [h1]
        have H1 := hid (And.intro h1 h2)
        rw [hff]
        clear hall hf hff h1 h2 hlt
        go_wp2
        go_ret2
        exact ⟨by rw [H1.out.1, H1.out.2]; rfl, HB.out⟩
end Go.Proofs.Ytmipocpajglbaaa
end
