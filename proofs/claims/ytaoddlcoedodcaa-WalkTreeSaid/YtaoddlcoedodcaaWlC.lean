/-
  Package walk as it landed: paths, copaths, what two have in common.
-/
import Derived.Test.YtaoddlcoedodcaaWlB
namespace Go.Proofs.Ytaoddlcoedodcaa
open Go Go.RowKit
set_option linter.unusedVariables false
set_option linter.unusedSimpArgs false
/-- A step on the way up: the r-th from the root. -/
theorem way_lt {q k r : Nat} (h : q < 2 ^ k) (hr : r ≤ k) : q / 2 ^ (k - r) < 2 ^ r := by
  have h2 := div_lt h (r := k - r) (by omega)
  rwa [show k - (k - r) = r by omega] at h2
set_option maxHeartbeats 1000000 in
theorem path_e (q l k : Nat) (W : World) (hq : q < 2 ^ k) (hk : l + k ≤ 16) : Calls Try.prog 25 #[.int .i64 (nd q l : Int), .int .i64 ((2 ^ (l + k) : Nat) : Int)] W (OwnL W (pathL q l k)) := by
  have HK : Hid (k ≤ 16) := hid (by omega)
  obtain ⟨n, hn⟩ : ∃ n : Int, n = ((2 ^ (l + k) : Nat) : Int) := ⟨_, rfl⟩
  have HR : Hid (∀ W, Calls Try.prog 39 #[.int .i64 (nd (q / 2 ^ (k - 0)) (l + (k - 0)) : Int), .int .i64 n] W fun e w' => e = .returned (.bool false) ∧ w' = W) := hid fun W => by
    have h := hasParent_root (l + k) W hk
    rw [Nat.sub_zero, Nat.div_eq_of_lt hq, hn]; exact h
  have HP : Hid (∀ r W, r + 1 ≤ k → Calls Try.prog 39 #[.int .i64 (nd (q / 2 ^ (k - (r + 1))) (l + (k - (r + 1))) : Int), .int .i64 n] W fun e w' => e = .returned (.bool true) ∧ w' = W) := hid fun r W hr => by
    have h := hasParent_yes (q / 2 ^ (k - (r + 1))) (l + (k - (r + 1))) r W (way_lt hq hr) (by omega)
    rw [show l + (k - (r + 1)) + (r + 1) = l + k by omega, ← hn] at h
    exact h
  have HA : Hid (∀ r W, r + 1 ≤ k → Calls Try.prog 40 #[.int .i64 (nd (q / 2 ^ (k - (r + 1))) (l + (k - (r + 1))) : Int)] W fun e w' => e = .returned (.int .i64 (nd (q / 2 ^ (k - r)) (l + (k - r)) : Int)) ∧ w' = W) := hid fun r W hr => by
    have h := above_any (q / 2 ^ (k - (r + 1))) (l + (k - (r + 1))) (r + 1) W (way_lt hq hr) (by omega)
    rw [Nat.div_div_eq_div_mul, ← Nat.pow_succ, show (k - (r + 1)).succ = k - r by omega, show l + (k - (r + 1)) + 1 = l + (k - r) by omega] at h
    exact h
  rw [← hn]
  have hx0 : (nd q l : Int) = (nd (q / 2 ^ (k - k)) (l + (k - k)) : Int) := by rw [Nat.sub_self, Nat.pow_zero, Nat.div_one, Nat.add_zero]
  obtain ⟨x, hx⟩ : ∃ x : Int, x = (nd q l : Int) := ⟨_, rfl⟩
  rw [← hx] at hx0 ⊢
  clear hn hq hk hx
  go_enter Try.func25, Try.ntmps25
  go_wp2
  go_loopg [0, 5] k (fun r xv out wr => r ≤ k ∧ xv = .int .i64 (nd (q / 2 ^ (k - r)) (l + (k - r)) : Int) ∧ OwnI wr W.heap.size out ((pathL q l k).take (k - r)) ∧ Below W.heap.size W wr)
  case atStart => exact ⟨Nat.le_refl _, by rw [hx0], by rw [Nat.sub_self]; exact owni_nil _ _, Below.refl _ _⟩
  case round =>
    obtain ⟨hr, rfl, ho, hb⟩ := hrel
    have hlen : ((pathL q l k).take (k - gk)).length = k - gk := by rw [List.length_take, pathL_length]; omega
    cases gk with
    | zero =>
      have HRr := hid (HR.out wr)
      rw [Nat.sub_zero] at ho
      rw [List.take_of_length_le (by rw [pathL_length]; exact Nat.le_refl _)] at ho
      obtain ⟨y, hy⟩ : ∃ y : Int, y = (nd (q / 2 ^ (k - 0)) (l + (k - 0)) : Int) := ⟨_, rfl⟩
      rw [← hy] at HRr ⊢
      have HO := hid ho; have HB := hid hb
      clear ho hb hlen hr hy
      go_wp2_with fail
      refine HRr.out.mono ?_
      rintro e w1 ⟨rfl, rfl⟩
      go_wp2
      go_ret
      exact ⟨_, rfl, HO.out, HB.out⟩
    | succ r =>
      have HPr := hid (HP.out r wr hr)
      have HAr := hid (fun W => HA.out r W hr)
      obtain ⟨y, hy⟩ : ∃ y, y = nd (q / 2 ^ (k - r)) (l + (k - r)) := ⟨_, rfl⟩
      have hsn : (pathL q l k).take (k - (r + 1)) ++ [y] = (pathL q l k).take (k - r) := by
        rw [hy, take_snoc (x := nd (q / 2 ^ (k - r)) (l + (k - r))), show k - (r + 1) + 1 = k - r by omega]
        have h := pathL_get q l k (k - (r + 1)) (by omega)
        rw [show k - (r + 1) + 1 = k - r by omega, show l + (k - (r + 1)) + 1 = l + (k - r) by omega] at h
        exact h
      rw [← hy] at HAr
      obtain ⟨z, hz⟩ : ∃ y : Int, y = (nd (q / 2 ^ (k - (r + 1))) (l + (k - (r + 1))) : Int) := ⟨_, rfl⟩
      rw [← hz] at HAr HPr ⊢
      have HSN := hid hsn; have HO := hid ho; have HBB := hid hb; have HLN := hid hlen; have HRK := hid hr; have HY := hid hy
      clear hy hz hsn ho hb hlen hr
      go_wp2_with fail
      refine HPr.out.mono ?_
      rintro e w1 ⟨rfl, rfl⟩
      clear HPr
      go_wp2_with fail
      refine (HAr.out _).mono ?_
      rintro e w2 ⟨rfl, rfl⟩
      go_wp2_with (at_builtin; refine wpList_append_lie rfl _ _ 33 rfl W.heap.size 3 (.int .i64 0) 8 Try.underlying33 infoI64 rfl rfl (World.ownsRow.alloc HO.out (.cells #[.int .i64 (y : Int)] 3)) rfl rfl (Lie.new1 _ _ _) (by intro u hu; simp at hu; subst hu; rfl) ?d1 ?d2 ?d3 ?_)
      case d1 => rw [HLN.out]; have := HK.out; unfold maxLen; simp; omega
      case d2 => rw [HLN.out]; have := HK.out; simp; omega
      case d3 => have := HBB.out.size; simp; omega
      intro v5 w5 hown5 hg5 _
      have HO5 : Hid (OwnI w5 W.heap.size v5 ((pathL q l k).take (k - r))) := hid (by rw [← HSN.out]; exact owni_snoc hown5 (by rw [List.length_take]) rfl)
      have HB5 : Hid (Below W.heap.size W w5) := hid ((HBB.out.alloc HBB.out.size _).grown hg5 (by have := HBB.out.size; simp; omega) (own_lt HO.out))
      clear hown5 hg5 HSN HO HBB
      go_wp2_with fail
      refine (HAr.out _).mono ?_
      rintro e w6 ⟨rfl, rfl⟩
      clear HAr
      go_wp2
      go_roundg r
      case measure => omega
      case rel => exact ⟨by have := HRK.out; omega, by rw [HY.out], HO5.out, HB5.out⟩
set_option maxHeartbeats 1000000 in
theorem copath_e (q l k : Nat) (W : World) (hq : q < 2 ^ k) (hk : l + k ≤ 16) : Calls Try.prog 27 #[.int .i64 (nd q l : Int), .int .i64 ((2 ^ (l + k) : Nat) : Int)] W (OwnL W (copL q l k)) := by
  have HK : Hid (k ≤ 16) := hid (by omega)
  obtain ⟨n, hn⟩ : ∃ n : Int, n = ((2 ^ (l + k) : Nat) : Int) := ⟨_, rfl⟩
  have HR : Hid (∀ W, Calls Try.prog 39 #[.int .i64 (nd (q / 2 ^ (k - 0)) (l + (k - 0)) : Int), .int .i64 n] W fun e w' => e = .returned (.bool false) ∧ w' = W) := hid fun W => by
    have h := hasParent_root (l + k) W hk
    rw [Nat.sub_zero, Nat.div_eq_of_lt hq, hn]; exact h
  have HP : Hid (∀ r W, r + 1 ≤ k → Calls Try.prog 39 #[.int .i64 (nd (q / 2 ^ (k - (r + 1))) (l + (k - (r + 1))) : Int), .int .i64 n] W fun e w' => e = .returned (.bool true) ∧ w' = W) := hid fun r W hr => by
    have h := hasParent_yes (q / 2 ^ (k - (r + 1))) (l + (k - (r + 1))) r W (way_lt hq hr) (by omega)
    rw [show l + (k - (r + 1)) + (r + 1) = l + k by omega, ← hn] at h
    exact h
  have HA : Hid (∀ r W, r + 1 ≤ k → Calls Try.prog 40 #[.int .i64 (nd (q / 2 ^ (k - (r + 1))) (l + (k - (r + 1))) : Int)] W fun e w' => e = .returned (.int .i64 (nd (q / 2 ^ (k - r)) (l + (k - r)) : Int)) ∧ w' = W) := hid fun r W hr => by
    have h := above_any (q / 2 ^ (k - (r + 1))) (l + (k - (r + 1))) (r + 1) W (way_lt hq hr) (by omega)
    rw [Nat.div_div_eq_div_mul, ← Nat.pow_succ, show (k - (r + 1)).succ = k - r by omega, show l + (k - (r + 1)) + 1 = l + (k - r) by omega] at h
    exact h
  have HS : Hid (∀ r W, r + 1 ≤ k → Calls Try.prog 41 #[.int .i64 (nd (q / 2 ^ (k - (r + 1))) (l + (k - (r + 1))) : Int)] W fun e w' => e = .returned (.int .i64 (nd (sbq (q / 2 ^ (k - (r + 1)))) (l + (k - (r + 1))) : Int)) ∧ w' = W) := hid fun r W hr =>
    beside_any (q / 2 ^ (k - (r + 1))) (l + (k - (r + 1))) (r + 1) W (way_lt hq hr) (by omega)
  rw [← hn]
  have hx0 : (nd q l : Int) = (nd (q / 2 ^ (k - k)) (l + (k - k)) : Int) := by rw [Nat.sub_self, Nat.pow_zero, Nat.div_one, Nat.add_zero]
  obtain ⟨x, hx⟩ : ∃ x : Int, x = (nd q l : Int) := ⟨_, rfl⟩
  rw [← hx] at hx0 ⊢
  clear hn hq hk hx
  go_enter Try.func27, Try.ntmps27
  go_wp2
  go_loopg [0, 5] k (fun r xv out wr => r ≤ k ∧ xv = .int .i64 (nd (q / 2 ^ (k - r)) (l + (k - r)) : Int) ∧ OwnI wr W.heap.size out ((copL q l k).take (k - r)) ∧ Below W.heap.size W wr)
  case atStart => exact ⟨Nat.le_refl _, by rw [hx0], by rw [Nat.sub_self]; exact owni_nil _ _, Below.refl _ _⟩
  case round =>
    obtain ⟨hr, rfl, ho, hb⟩ := hrel
    have hlen : ((copL q l k).take (k - gk)).length = k - gk := by rw [List.length_take, copL_length]; omega
    cases gk with
    | zero =>
      have HRr := hid (HR.out wr)
      rw [Nat.sub_zero] at ho
      rw [List.take_of_length_le (by rw [copL_length]; exact Nat.le_refl _)] at ho
      obtain ⟨y, hy⟩ : ∃ y : Int, y = (nd (q / 2 ^ (k - 0)) (l + (k - 0)) : Int) := ⟨_, rfl⟩
      rw [← hy] at HRr ⊢
      have HO := hid ho; have HB := hid hb
      clear ho hb hlen hr hy
      go_wp2_with fail
      refine HRr.out.mono ?_
      rintro e w1 ⟨rfl, rfl⟩
      go_wp2
      go_ret
      exact ⟨_, rfl, HO.out, HB.out⟩
    | succ r =>
      have HPr := hid (HP.out r wr hr)
      have HAr := hid (fun W => HA.out r W hr)
      have HSr := hid (HS.out r wr hr)
      obtain ⟨y, hy⟩ : ∃ y, y = nd (q / 2 ^ (k - r)) (l + (k - r)) := ⟨_, rfl⟩
      obtain ⟨u, hu⟩ : ∃ y, y = nd (sbq (q / 2 ^ (k - (r + 1)))) (l + (k - (r + 1))) := ⟨_, rfl⟩
      have hsn : (copL q l k).take (k - (r + 1)) ++ [u] = (copL q l k).take (k - r) := by
        rw [take_snoc (x := u), show k - (r + 1) + 1 = k - r by omega]
        have h := copL_get q l k (k - (r + 1)) (by omega)
        rw [h, hu]
      rw [← hu] at HSr
      rw [← hy] at HAr
      obtain ⟨z, hz⟩ : ∃ y : Int, y = (nd (q / 2 ^ (k - (r + 1))) (l + (k - (r + 1))) : Int) := ⟨_, rfl⟩
      rw [← hz] at HAr HPr HSr ⊢
      have HSN := hid hsn; have HO := hid ho; have HBB := hid hb; have HLN := hid hlen; have HRK := hid hr; have HY := hid hy
      clear hy hz hu hsn ho hb hlen hr
      go_wp2_with fail
      refine HPr.out.mono ?_
      rintro e w1 ⟨rfl, rfl⟩
      clear HPr
      go_wp2_with fail
      refine HSr.out.mono ?_
      rintro e w2 ⟨rfl, rfl⟩
      clear HSr
      go_wp2_with (at_builtin; refine wpList_append_lie rfl _ _ 33 rfl W.heap.size 3 (.int .i64 0) 8 Try.underlying33 infoI64 rfl rfl (World.ownsRow.alloc HO.out (.cells #[.int .i64 (u : Int)] 3)) rfl rfl (Lie.new1 _ _ _) (by intro u' hu; simp at hu; subst hu; rfl) ?d1 ?d2 ?d3 ?_)
      case d1 => rw [HLN.out]; have := HK.out; unfold maxLen; simp; omega
      case d2 => rw [HLN.out]; have := HK.out; simp; omega
      case d3 => have := HBB.out.size; simp; omega
      intro v5 w5 hown5 hg5 _
      have HO5 : Hid (OwnI w5 W.heap.size v5 ((copL q l k).take (k - r))) := hid (by rw [← HSN.out]; exact owni_snoc hown5 (by rw [List.length_take]) rfl)
      have HB5 : Hid (Below W.heap.size W w5) := hid ((HBB.out.alloc HBB.out.size _).grown hg5 (by have := HBB.out.size; simp; omega) (own_lt HO.out))
      clear hown5 hg5 HSN HO HBB
      go_wp2_with fail
      refine (HAr.out _).mono ?_
      rintro e w6 ⟨rfl, rfl⟩
      clear HAr
      go_wp2
      go_roundg r
      case measure => omega
      case rel => exact ⟨by have := HRK.out; omega, by rw [HY.out], HO5.out, HB5.out⟩
set_option maxHeartbeats 1000000 in
theorem common_e (q l k q' l' k' : Nat) (W : World) (hq : q < 2 ^ k) (hk : l + k ≤ 16) (hq' : q' < 2 ^ k') (hk' : l' + k' = l + k) : Calls Try.prog 29 #[.int .i64 (nd q l : Int), .int .i64 (nd q' l' : Int), .int .i64 ((2 ^ (l + k) : Nat) : Int)] W fun e w' => e = .returned (.int .i64 (comO q l k q' k' (min k k' + 1))) ∧ w' = W := by
  have HX := hid (isOf_e (nd q l) ((2 ^ (l + k) : Nat) : Int) W (i64_pow hk))
  rw [inB_nd hq hk] at HX
  have HY := hid (isOf_e (nd q' l') ((2 ^ (l + k) : Nat) : Int) W (i64_pow hk))
  have h1 := inB_nd (l := l') hq' (by omega)
  rw [hk'] at h1
  rw [h1] at HY
  have HU : Hid (∀ r W, r ≤ k → Calls Try.prog 31 #[.int .i64 (nd q' l' : Int), .int .i64 (nd (q / 2 ^ (k - r)) (l + (k - r)) : Int)] W fun e w' => e = .returned (.bool (undB q' l' (q / 2 ^ (k - r)) (l + (k - r)))) ∧ w' = W) := hid fun r W hr =>
    under_e q' l' (16 - l') (q / 2 ^ (k - r)) (l + (k - r)) (16 - (l + (k - r))) W (Nat.lt_of_lt_of_le hq' (Nat.pow_le_pow_right (by decide) (by omega))) (by omega) (Nat.lt_of_lt_of_le (way_lt hq hr) (Nat.pow_le_pow_right (by decide) (by omega))) (by omega)
  have HA : Hid (∀ r W, r + 1 ≤ k → Calls Try.prog 40 #[.int .i64 (nd (q / 2 ^ (k - (r + 1))) (l + (k - (r + 1))) : Int)] W fun e w' => e = .returned (.int .i64 (nd (q / 2 ^ (k - r)) (l + (k - r)) : Int)) ∧ w' = W) := hid fun r W hr => by
    have h := above_any (q / 2 ^ (k - (r + 1))) (l + (k - (r + 1))) (r + 1) W (way_lt hq hr) (by omega)
    rw [Nat.div_div_eq_div_mul, ← Nat.pow_succ, show (k - (r + 1)).succ = k - r by omega, show l + (k - (r + 1)) + 1 = l + (k - r) by omega] at h
    exact h
  have HC : Hid (∀ r, r ≤ k → undB q' l' (q / 2 ^ (k - r)) (l + (k - r)) = true → (∀ i, i < k - r → undB q' l' (q / 2 ^ i) (l + i) = false) → comO q l k q' k' (min k k' + 1) = (nd (q / 2 ^ (k - r)) (l + (k - r)) : Int)) := hid fun r hr h1 h2 => com_of hk' (by omega) h1 h2
  have HT : Hid (undB q' l' (q / 2 ^ (k - 0)) (l + (k - 0)) = true) := hid (by
    rw [und_iff, Nat.sub_zero, Nat.div_eq_of_lt hq]
    exact ⟨by omega, Nat.div_eq_of_lt (by rw [show l + k - l' = k' by omega]; exact hq')⟩)
  have hx0 : (nd q l : Int) = (nd (q / 2 ^ (k - k)) (l + (k - k)) : Int) := by rw [Nat.sub_self, Nat.pow_zero, Nat.div_one, Nat.add_zero]
  obtain ⟨x, hx⟩ : ∃ x : Int, x = (nd q l : Int) := ⟨_, rfl⟩
  obtain ⟨y, hy⟩ : ∃ x : Int, x = (nd q' l' : Int) := ⟨_, rfl⟩
  obtain ⟨n, hn⟩ : ∃ n : Int, n = ((2 ^ (l + k) : Nat) : Int) := ⟨_, rfl⟩
  obtain ⟨c, hc⟩ : ∃ c : Int, c = comO q l k q' k' (min k k' + 1) := ⟨_, rfl⟩
  rw [← hx] at hx0 HX ⊢
  rw [← hn] at HX HY ⊢
  rw [← hy] at HY HU ⊢
  rw [← hc] at HC ⊢
  have HX0 := hid hx0
  clear hx hy hn hc hq hk hq' hk' h1 hx0
  go_enter Try.func29, Try.ntmps29
  go_wp2_with fail
  refine HX.out.mono ?_
  rintro e w1 ⟨rfl, rfl⟩
  clear HX
  go_wp2_with fail
  refine HY.out.mono ?_
  rintro e w1 ⟨rfl, rfl⟩
  clear HY
  go_wp2
  go_loopg [0] k (fun r xv wr => r ≤ k ∧ xv = .int .i64 (nd (q / 2 ^ (k - r)) (l + (k - r)) : Int) ∧ (∀ i, i < k - r → undB q' l' (q / 2 ^ i) (l + i) = false) ∧ wr = w1)
  case atStart => exact ⟨Nat.le_refl _, by rw [HX0.out], fun i hi => by omega, rfl⟩
  case round =>
    obtain ⟨hr, rfl, hno, rfl⟩ := hrel
    have HUr := hid (HU.out gk wr hr)
    have HNO := hid hno; have HRK := hid hr
    by_cases hu : undB q' l' (q / 2 ^ (k - gk)) (l + (k - gk)) = true
    · have hc := HC.out gk hr hu hno
      rw [hu] at HUr
      rw [← hc] at HUr ⊢
      clear hr hno hu hc
      go_wp2_with fail
      refine HUr.out.mono ?_
      rintro e w2 ⟨rfl, rfl⟩
      go_wp2
      go_ret
      exact ⟨rfl, rfl⟩
    · have hf : undB q' l' (q / 2 ^ (k - gk)) (l + (k - gk)) = false := by simpa using hu
      cases gk with
      | zero => exact absurd HT.out hu
      | succ r =>
        have HAr := hid (HA.out r wr hr)
        rw [hf] at HUr
        have HF := hid hf
        obtain ⟨z, hz⟩ : ∃ y : Int, y = (nd (q / 2 ^ (k - (r + 1))) (l + (k - (r + 1))) : Int) := ⟨_, rfl⟩
        obtain ⟨z', hz'⟩ : ∃ y : Int, y = (nd (q / 2 ^ (k - r)) (l + (k - r)) : Int) := ⟨_, rfl⟩
        rw [← hz] at HUr HAr ⊢
        rw [← hz'] at HAr
        have HZ := hid hz'
        clear hz hz' hf hu hno hr
        go_wp2_with fail
        refine HUr.out.mono ?_
        rintro e w2 ⟨rfl, rfl⟩
        clear HUr
        go_wp2_with fail
        refine HAr.out.mono ?_
        rintro e w2 ⟨rfl, rfl⟩
        clear HAr
        go_wp2
        go_roundg r
        case measure => omega
        case rel =>
          refine ⟨by have := HRK.out; omega, by rw [HZ.out], fun i hi => ?_, rfl⟩
          have := HRK.out
          by_cases hi2 : i < k - (r + 1)
          · exact HNO.out i hi2
          · obtain rfl : i = k - (r + 1) := by omega
            exact HF.out
theorem path_ok : WPath := fun x n W _ hn => by
  refine retL_of ?_
  by_cases h : inT x n
  · obtain ⟨q, l, k, hq, hk, rfl, rfl⟩ := h
    rw [pathZ_nd hq hk]
    exact path_e q l k W hq hk
  · rw [pathZ_no h]
    have HP := hid (fun W => hasParent_no x n W hn h)
    clear hn h
    go_enter Try.func25, Try.ntmps25
    go_wp2
    go_loopg [0, 5] 0 (fun r xv out wr => xv = .int .i64 x ∧ out = .slice none 0 0 ∧ wr = W)
    case atStart => exact ⟨rfl, rfl, rfl⟩
    case round =>
      obtain ⟨rfl, rfl, rfl⟩ := hrel
      go_wp2_with fail
      refine (HP.out _).mono ?_
      rintro e w2 ⟨rfl, rfl⟩
      go_wp2
      go_ret
      exact ⟨_, rfl, owni_nil _ _, Below.refl _ _⟩
theorem copath_ok : WCopath := fun x n W _ hn => by
  refine retL_of ?_
  by_cases h : inT x n
  · obtain ⟨q, l, k, hq, hk, rfl, rfl⟩ := h
    rw [copZ_nd hq hk]
    exact copath_e q l k W hq hk
  · rw [copZ_no h]
    have HP := hid (fun W => hasParent_no x n W hn h)
    clear hn h
    go_enter Try.func27, Try.ntmps27
    go_wp2
    go_loopg [0, 5] 0 (fun r xv out wr => xv = .int .i64 x ∧ out = .slice none 0 0 ∧ wr = W)
    case atStart => exact ⟨rfl, rfl, rfl⟩
    case round =>
      obtain ⟨rfl, rfl, rfl⟩ := hrel
      go_wp2_with fail
      refine (HP.out _).mono ?_
      rintro e w2 ⟨rfl, rfl⟩
      go_wp2
      go_ret
      exact ⟨_, rfl, owni_nil _ _, Below.refl _ _⟩
theorem common_ok : WCommon := fun x y n W _ _ hn => by
  by_cases h : inT x n
  · by_cases h' : inT y n
    · obtain ⟨q, l, k, hq, hk, rfl, rfl⟩ := h
      obtain ⟨q', l', k', hq', hk', rfl, he⟩ := h'
      have he' : l' + k' = l + k := pow2_inj (by omega)
      rw [commonZ_nd hq hk hq' he']
      exact (common_e q l k q' l' k' W hq hk hq' he').mono fun e w' ⟨h1, h2⟩ => ⟨h1, by rw [h2]; exact Below.refl _ _⟩
    · rw [commonZ_no (.inr h')]
      have HX := hid (isOf_e x n W hn)
      have HY := hid (isOf_e y n W hn)
      rw [inB_iff.2 h] at HX
      rw [inB_no h'] at HY
      clear hn h h'
      go_enter Try.func29, Try.ntmps29
      go_wp2_with fail
      refine HX.out.mono ?_
      rintro e w1 ⟨rfl, rfl⟩
      go_wp2_with fail
      refine HY.out.mono ?_
      rintro e w1 ⟨rfl, rfl⟩
      go_wp2
      go_ret
      exact ⟨rfl, Below.refl _ _⟩
  · rw [commonZ_no (.inl h)]
    have HX := hid (isOf_e x n W hn)
    rw [inB_no h] at HX
    clear hn h
    go_enter Try.func29, Try.ntmps29
    go_wp2_with fail
    refine HX.out.mono ?_
    rintro e w1 ⟨rfl, rfl⟩
    go_wp2
    go_ret
    exact ⟨rfl, Below.refl _ _⟩
end Go.Proofs.Ytaoddlcoedodcaa
