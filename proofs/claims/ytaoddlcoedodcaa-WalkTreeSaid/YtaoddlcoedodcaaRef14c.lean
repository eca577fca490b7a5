/-
  The document's layer 14: paths, copaths, what two have in common, what lies beneath, lists of numbers.
-/
import Derived.Test.YtaoddlcoedodcaaRef14b
import Derived.Test.YtaoddlcoedodcaaSame
namespace Go.Proofs.Ytaoddlcoedodcaa
open Go Go.RowKit
set_option linter.unusedVariables false
set_option linter.unusedSimpArgs false
theorem take_snoc {L : List Nat} {j x : Nat} (h : L[j]? = some x) : L.take j ++ [x] = L.take (j + 1) := by
  obtain ⟨h1, h2⟩ := List.getElem?_eq_some_iff.1 h
  rw [List.take_succ_eq_append_getElem h1, h2]
theorem own_base0 {w : World} {B B' : Nat} {v : Value} {xs : List Nat} (h : OwnI w B' v xs) (hB : B ≤ B') : OwnI w B v xs := by
  obtain ⟨h1, h2⟩ := h
  refine ⟨h1, ?_⟩
  rcases h2 with h2 | ⟨g, cap, cur, hv, hb, r⟩
  · exact .inl h2
  · exact .inr ⟨g, cap, cur, hv, Nat.le_trans hB hb, r⟩
theorem own_onI {w w' : World} {B : Nat} {v : Value} {xs : List Nat} (h : OwnI w B v xs) (hb : Below w.heap.size w w') : OwnI w' B v xs :=
  World.ownsRow.kept (row := none) h ⟨hb.os, hb.tape, hb.output, hb.size, fun k hk _ => hb.block k hk⟩ (by cases hv : v.ownBlock <;> simp)
/-- Numbers, in memory of the call's own. -/
def OwnL (w : World) (xs : List Nat) (e : Ending) (w' : World) : Prop := ∃ v, e = .returned v ∧ OwnI w' w.heap.size v xs ∧ Below w.heap.size w w'
set_option maxHeartbeats 1000000 in
theorem Path14_ok (q l k : Nat) (w : World) (hq : q < 2 ^ k) (hk : l + k ≤ 16) : Calls Try.prog 26 #[.int .i64 (nd q l : Int), .int .i64 ((2 ^ (l + k) : Nat) : Int)] w (OwnL w (pathL q l k)) := by
  have HD := hid (fun W => Down14_ok q l k W hq hk)
  have HK : Hid (k ≤ 16) := hid (by omega)
  obtain ⟨x, hx⟩ : ∃ x : Int, x = (nd q l : Int) := ⟨_, rfl⟩
  obtain ⟨n, hn⟩ : ∃ n : Int, n = ((2 ^ (l + k) : Nat) : Int) := ⟨_, rfl⟩
  rw [← hx, ← hn] at HD
  rw [← hx, ← hn]
  clear hx hn hq hk
  go_enter Try.func26, Try.ntmps26
  go_wp2_with fail
  refine (HD.out _).mono ?_
  rintro e w1 ⟨b, c, rfl, hL, hb⟩
  have HL := hid hL; have HB := hid hb
  obtain ⟨m, hm⟩ : ∃ m : Nat, m = k + 1 := ⟨_, rfl⟩
  have hwk : wrap64 ((m : Int) - 2) = (k : Int) - 1 := (wrap64_in (by have := HK.out; omega) (by have := HK.out; omega)).trans (by omega)
  have HM := hid hm
  rw [← hm]
  clear hL hb HD hm
  go_wp2
  clear hwk
  go_loopg [6, 7] k (fun r out i wr => r ≤ k ∧ i = .int .i64 ((r : Int) - 1) ∧ OwnI wr w1.heap.size out ((pathL q l k).take (k - r)) ∧ Below w1.heap.size w1 wr)
  case atStart => exact ⟨Nat.le_refl _, by first | rfl | rw [(wrap64_in (by have := HK.out; have := HM.out; omega) (by have := HK.out; have := HM.out; omega) : wrap64 ((m : Int) - 2) = _)]; congr 1; have := HM.out; omega, by rw [Nat.sub_self]; exact owni_nil _ _, Below.refl _ _⟩
  case round =>
    obtain ⟨hr, rfl, ho, hb⟩ := hrel
    have hlen : ((pathL q l k).take (k - gk)).length = k - gk := by rw [List.length_take, pathL_length]; omega
    cases gk with
    | zero =>
      rw [Nat.sub_zero] at ho
      rw [List.take_of_length_le (by rw [pathL_length]; exact Nat.le_refl _)] at ho
      have hge : ¬ (0 : Int) ≤ ((0 : Nat) : Int) - 1 := by omega
      have HO := hid (own_base0 ho HB.out.size); have HB2 := hid (HB.out.trans (hb.mono HB.out.size))
      clear ho hb hlen hr
      go_wp2
      go_ret
      exact ⟨_, rfl, HO.out, HB2.out⟩
    | succ r =>
      obtain ⟨h1, -, -⟩ := (HL.out.on hb).cells (chain_get q l k (k - r) (by omega) |> fun h => by rw [show k - (k - r) = r by omega] at h; exact h)
      obtain ⟨y, hy⟩ : ∃ y, y = nd (q / 2 ^ (k - r)) (l + (k - r)) := ⟨_, rfl⟩
      simp only [← hy] at h1
      have hsn : (pathL q l k).take (k - (r + 1)) ++ [y] = (pathL q l k).take (k - r) := by
        rw [hy, take_snoc (x := nd (q / 2 ^ (k - r)) (l + (k - r))), show k - (r + 1) + 1 = k - r by omega]
        have h := pathL_get q l k (k - (r + 1)) (by omega)
        rw [show k - (r + 1) + 1 = k - r by omega, show l + (k - (r + 1)) + 1 = l + (k - r) by omega] at h
        exact h
      have hi : (((r + 1 : Nat) : Int) - 1) = (r : Int) := by omega
      rw [hi]
      have hge : (0 : Int) ≤ (r : Int) := by omega
      have hrm : (r : Int) < (m : Int) := by have := HM.out; omega
      have hrm2 : r < m := by have := HM.out; omega
      have hbs : b < wr.heap.size := (HL.out.on hb).1
      have hwr : wrap64 ((r : Int) - 1) = (r : Int) - 1 := wrap64_in (by omega) (by have := HK.out; omega)
      have HSN := hid hsn; have HO := hid ho; have HBB := hid hb; have HLN := hid hlen; have HR := hid hr
      clear hy hsn hi ho hb hlen hr
      go_wp2_with (at_builtin; refine wpList_append_lie rfl _ _ 33 rfl w1.heap.size 3 (.int .i64 0) 8 Try.underlying33 infoI64 rfl rfl (World.ownsRow.alloc HO.out (.cells #[.int .i64 (y : Int)] 3)) rfl rfl (Lie.new1 _ _ _) (by intro u hu; simp at hu; subst hu; rfl) ?d1 ?d2 ?d3 ?_)
      case d1 => rw [HLN.out]; have := HK.out; unfold maxLen; simp; omega
      case d2 => rw [HLN.out]; have := HK.out; simp; omega
      case d3 => have := HBB.out.size; simp; omega
      intro v5 w5 hown5 hg5 _
      have HO5 : Hid (OwnI w5 w1.heap.size v5 ((pathL q l k).take (k - r))) := hid (by rw [← HSN.out]; exact owni_snoc hown5 (by rw [List.length_take]) rfl)
      have HB5 : Hid (Below w1.heap.size w1 w5) := hid ((HBB.out.alloc HBB.out.size _).grown hg5 (by have := HBB.out.size; simp; omega) (own_lt HO.out))
      clear hown5 hg5 HSN HO HBB
      go_wp2
      go_roundg r
      case measure => omega
      case rel => exact ⟨by have := HR.out; omega, by try rw [hwr], HO5.out, HB5.out⟩
theorem Path14_no (x n : Int) (w : World) (h : ¬ inT x n) : Calls Try.prog 26 #[.int .i64 x, .int .i64 n] w (OwnL w []) := by
  have HD := hid (fun W => Down14_no x n W h)
  clear h
  go_enter Try.func26, Try.ntmps26
  go_wp2_with fail
  refine (HD.out _).mono ?_
  rintro e w1 ⟨rfl, rfl⟩
  clear HD
  go_wp2
  go_loopg [6, 7] 0 (fun r out i wr => i = .int .i64 (-2) ∧ out = .slice none 0 0 ∧ wr = w1)
  case atStart => exact ⟨rfl, rfl, rfl⟩
  case round =>
    obtain ⟨rfl, rfl, rfl⟩ := hrel
    go_wp2
    go_ret
    exact ⟨_, rfl, owni_nil _ _, Below.refl _ _⟩
set_option maxHeartbeats 1000000 in
theorem Copath14_ok (q l k : Nat) (w : World) (hq : q < 2 ^ k) (hk : l + k ≤ 16) : Calls Try.prog 28 #[.int .i64 (nd q l : Int), .int .i64 ((2 ^ (l + k) : Nat) : Int)] w (OwnL w (copL q l k)) := by
  have HD := hid (fun W => Down14_ok q l k W hq hk)
  have HK : Hid (k ≤ 16) := hid (by omega)
  obtain ⟨x, hx⟩ : ∃ x : Int, x = (nd q l : Int) := ⟨_, rfl⟩
  obtain ⟨n, hn⟩ : ∃ n : Int, n = ((2 ^ (l + k) : Nat) : Int) := ⟨_, rfl⟩
  have HS : Hid (∀ r W, r + 1 ≤ k → Calls Try.prog 23 #[.int .i64 (nd (q / 2 ^ (k - (r + 1))) (l + (k - (r + 1))) : Int), .int .i64 n] W fun e w' => e = .returned (.int .i64 (nd (sbq (q / 2 ^ (k - (r + 1)))) (l + (k - (r + 1))) : Int)) ∧ Below W.heap.size W w') := hid fun r W hr => by
    have h1 := div_lt hq (r := k - (r + 1)) (by omega)
    rw [show k - (k - (r + 1)) = r + 1 by omega] at h1
    have h := Sibling14_ok (q / 2 ^ (k - (r + 1))) (l + (k - (r + 1))) r W h1 (by omega)
    rw [show l + (k - (r + 1)) + (r + 1) = l + k by omega, ← hn] at h
    exact h
  rw [← hx, ← hn] at HD
  rw [← hx, ← hn]
  clear hx hn hq hk
  go_enter Try.func28, Try.ntmps28
  go_wp2_with fail
  refine (HD.out _).mono ?_
  rintro e w1 ⟨b, c, rfl, hL, hb⟩
  have HL := hid hL; have HB := hid hb
  obtain ⟨m, hm⟩ : ∃ m : Nat, m = k + 1 := ⟨_, rfl⟩
  have hwk : wrap64 ((m : Int) - 1) = (k : Int) := (wrap64_in (by have := HK.out; omega) (by have := HK.out; omega)).trans (by omega)
  have HM := hid hm
  rw [← hm]
  clear hL hb HD hm
  go_wp2
  clear hwk
  go_loopg [6, 7] k (fun r out i wr => r ≤ k ∧ i = .int .i64 (r : Int) ∧ OwnI wr w1.heap.size out ((copL q l k).take (k - r)) ∧ Below w1.heap.size w1 wr)
  case atStart => exact ⟨Nat.le_refl _, by first | rfl | rw [(wrap64_in (by have := HK.out; have := HM.out; omega) (by have := HK.out; have := HM.out; omega) : wrap64 ((m : Int) - 1) = _)]; congr 1; have := HM.out; omega, by rw [Nat.sub_self]; exact owni_nil _ _, Below.refl _ _⟩
  case round =>
    obtain ⟨hr, rfl, ho, hb⟩ := hrel
    have hlen : ((copL q l k).take (k - gk)).length = k - gk := by rw [List.length_take, copL_length]; omega
    cases gk with
    | zero =>
      rw [Nat.sub_zero] at ho
      rw [List.take_of_length_le (by rw [copL_length]; exact Nat.le_refl _)] at ho
      have hge : ¬ (1 : Int) ≤ ((0 : Nat) : Int) := by omega
      have HO := hid (own_base0 ho HB.out.size); have HB2 := hid (HB.out.trans (hb.mono HB.out.size))
      clear ho hb hlen hr
      go_wp2
      go_ret
      exact ⟨_, rfl, HO.out, HB2.out⟩
    | succ r =>
      obtain ⟨h1, -, -⟩ := (HL.out.on hb).cells (chain_get q l k (k - (r + 1)) (by omega) |> fun h => by rw [show k - (k - (r + 1)) = r + 1 by omega] at h; exact h)
      have HSr := hid (fun W => HS.out r W hr)
      obtain ⟨y, hy⟩ : ∃ y, y = nd (q / 2 ^ (k - (r + 1))) (l + (k - (r + 1))) := ⟨_, rfl⟩
      obtain ⟨z, hz⟩ : ∃ y, y = nd (sbq (q / 2 ^ (k - (r + 1)))) (l + (k - (r + 1))) := ⟨_, rfl⟩
      rw [← hy, ← hz] at HSr
      simp only [← hy] at h1
      have hsn : (copL q l k).take (k - (r + 1)) ++ [z] = (copL q l k).take (k - r) := by
        rw [take_snoc (x := z), show k - (r + 1) + 1 = k - r by omega]
        have h := copL_get q l k (k - (r + 1)) (by omega)
        rw [h, hz]
      obtain ⟨i, hi⟩ : ∃ i : Nat, i = r + 1 := ⟨_, rfl⟩
      have hge : (1 : Int) ≤ (i : Int) := by omega
      have hge1 : 1 ≤ i := by omega
      have hrm : (i : Int) < (m : Int) := by have := HM.out; omega
      have hrm2 : i < m := by have := HM.out; omega
      have hi0 : (0 : Int) ≤ (i : Int) := by omega
      have hbs : b < wr.heap.size := (HL.out.on hb).1
      have hwr : wrap64 ((i : Int) - 1) = (r : Int) := (wrap64_in (by omega) (by have := HK.out; omega)).trans (by omega)
      rw [← hi] at h1
      have HSN := hid hsn; have HO := hid ho; have HBB := hid hb; have HLN := hid hlen; have HR := hid hr; have HI := hid hi
      rw [← hi]
      clear hy hz hsn ho hb hlen hr hi
      go_wp2_with fail
      refine (HSr.out _).mono ?_
      rintro e w3 ⟨rfl, hb3⟩
      have HO3 : Hid (OwnI w3 w1.heap.size _ _) := hid (own_onI HO.out hb3)
      have HB3 := hid (HBB.out.trans (hb3.mono HBB.out.size))
      clear hb3 HSr HO HBB h1
      go_wp2_with (at_builtin; refine wpList_append_lie rfl _ _ 33 rfl w1.heap.size 3 (.int .i64 0) 8 Try.underlying33 infoI64 rfl rfl (World.ownsRow.alloc HO3.out (.cells #[.int .i64 (z : Int)] 3)) rfl rfl (Lie.new1 _ _ _) (by intro u hu; simp at hu; subst hu; rfl) ?d1 ?d2 ?d3 ?_)
      case d1 => rw [HLN.out]; have := HK.out; unfold maxLen; simp; omega
      case d2 => rw [HLN.out]; have := HK.out; simp; omega
      case d3 => have := HB3.out.size; simp; omega
      intro v5 w5 hown5 hg5 _
      have HO5 : Hid (OwnI w5 w1.heap.size v5 ((copL q l k).take (k - r))) := hid (by rw [← HSN.out]; exact owni_snoc hown5 (by rw [List.length_take]) rfl)
      have HB5 : Hid (Below w1.heap.size w1 w5) := hid ((HB3.out.alloc HB3.out.size _).grown hg5 (by have := HB3.out.size; simp; omega) (own_lt HO3.out))
      clear hown5 hg5 HSN HO3 HB3
      go_wp2
      go_roundg r
      case measure => omega
      case rel => exact ⟨by have := HR.out; omega, by try rw [hwr], HO5.out, HB5.out⟩
theorem Copath14_no (x n : Int) (w : World) (h : ¬ inT x n) : Calls Try.prog 28 #[.int .i64 x, .int .i64 n] w (OwnL w []) := by
  have HD := hid (fun W => Down14_no x n W h)
  clear h
  go_enter Try.func28, Try.ntmps28
  go_wp2_with fail
  refine (HD.out _).mono ?_
  rintro e w1 ⟨rfl, rfl⟩
  clear HD
  go_wp2
  go_loopg [6, 7] 0 (fun r out i wr => i = .int .i64 (-1) ∧ out = .slice none 0 0 ∧ wr = w1)
  case atStart => exact ⟨rfl, rfl, rfl⟩
  case round =>
    obtain ⟨rfl, rfl, rfl⟩ := hrel
    go_wp2
    go_ret
    exact ⟨_, rfl, owni_nil _ _, Below.refl _ _⟩
/-- The last that two ways down have in common, of the first i of each. -/
def comO (q l k q' k' : Nat) : Nat → Int
  | 0 => -1
  | i + 1 => if q / 2 ^ (k - i) = q' / 2 ^ (k' - i) then (nd (q / 2 ^ (k - i)) (l + (k - i)) : Int) else comO q l k q' k' i
set_option maxHeartbeats 1000000 in
theorem Common14_ok (q l k q' l' k' : Nat) (w : World) (hq : q < 2 ^ k) (hk : l + k ≤ 16) (hq' : q' < 2 ^ k') (hk' : l' + k' = l + k) : Calls Try.prog 30 #[.int .i64 (nd q l : Int), .int .i64 (nd q' l' : Int), .int .i64 ((2 ^ (l + k) : Nat) : Int)] w fun e w' => e = .returned (.int .i64 (comO q l k q' k' (min k k' + 1))) ∧ Below w.heap.size w w' := by
  have HD := hid (fun W => Down14_ok q l k W hq hk)
  have HD' := hid (fun W => Down14_ok q' l' k' W hq' (by omega))
  rw [hk'] at HD'
  have HK : Hid (k ≤ 16 ∧ k' ≤ 16 ∧ l' + k' = l + k) := hid ⟨by omega, by omega, hk'⟩
  obtain ⟨x, hx⟩ : ∃ x : Int, x = (nd q l : Int) := ⟨_, rfl⟩
  obtain ⟨y, hy⟩ : ∃ x : Int, x = (nd q' l' : Int) := ⟨_, rfl⟩
  obtain ⟨n, hn⟩ : ∃ n : Int, n = ((2 ^ (l + k) : Nat) : Int) := ⟨_, rfl⟩
  rw [← hx, ← hn] at HD
  rw [← hy, ← hn] at HD'
  rw [← hx, ← hy, ← hn]
  clear hx hy hn hq hk hq' hk'
  go_enter Try.func30, Try.ntmps30
  go_wp2_with fail
  refine (HD.out _).mono ?_
  rintro e w1 ⟨b, c, rfl, hL, hb⟩
  have HL := hid hL; have HB := hid hb
  clear hL hb HD
  go_wp2_with fail
  refine (HD'.out _).mono ?_
  rintro e w2 ⟨b', c', rfl, hL', hb⟩
  have HL2 := hid (HL.out.on hb); have HL' := hid hL'; have HB2 := hid (HB.out.trans (hb.mono HB.out.size))
  clear hL' hb HD' HL HB
  obtain ⟨m, hm⟩ : ∃ m : Nat, m = k + 1 := ⟨_, rfl⟩
  obtain ⟨m', hm'⟩ : ∃ m : Nat, m = k' + 1 := ⟨_, rfl⟩
  have HM : Hid (m = k + 1 ∧ m' = k' + 1) := hid ⟨hm, hm'⟩
  rw [← hm, ← hm']
  clear hm hm'
  go_wp2
  go_loopg [9, 10] (min k k' + 1) (fun r out i wr => ∃ j t : Nat, j + r = min k k' + 1 ∧ i = .int .i64 (j : Int) ∧ out = .int .i64 (comO q l k q' k' j) ∧ wr = w2.drewN t)
  case atStart => exact ⟨0, 0, by omega, rfl, rfl, rfl⟩
  case round =>
    obtain ⟨j, t, hj, rfl, rfl, rfl⟩ := hrel
    by_cases hlt : j < min k k' + 1
    · have hjm : (j : Int) < (m : Int) := by have := HM.out; omega
      have hjm' : (j : Int) < (m' : Int) := by have := HM.out; omega
      have h0 : (0 : Int) ≤ (j : Int) := by omega
      have hjn : j < m := by omega
      have hjn' : j < m' := by omega
      obtain ⟨h1, -, -⟩ := HL2.out.cells (chain_get q l k (k - j) (by omega) |> fun h => by rw [show k - (k - j) = j by omega] at h; exact h)
      obtain ⟨h2, -, -⟩ := HL'.out.cells (chain_get q' l' k' (k' - j) (by omega) |> fun h => by rw [show k' - (k' - j) = j by omega] at h; exact h)
      have hiff : nd (q / 2 ^ (k - j)) (l + (k - j)) = nd (q' / 2 ^ (k' - j)) (l' + (k' - j)) ↔ q / 2 ^ (k - j) = q' / 2 ^ (k' - j) :=
        ⟨fun h => (nd_inj h).1, fun h => by rw [h, show l + (k - j) = l' + (k' - j) by have := HK.out; omega]⟩
      have hstep : comO q l k q' k' (j + 1) = if q / 2 ^ (k - j) = q' / 2 ^ (k' - j) then (nd (q / 2 ^ (k - j)) (l + (k - j)) : Int) else comO q l k q' k' j := rfl
      obtain ⟨p, hp⟩ : ∃ p, p = nd (q / 2 ^ (k - j)) (l + (k - j)) := ⟨_, rfl⟩
      obtain ⟨p', hp'⟩ : ∃ p, p = nd (q' / 2 ^ (k' - j)) (l' + (k' - j)) := ⟨_, rfl⟩
      simp only [← hp] at h1
      simp only [← hp'] at h2
      rw [← hp, ← hp'] at hiff
      rw [← hp] at hstep
      have hb1 := HL2.out.1; have hb2 := HL'.out.1
      have hwj : wrap64 ((j : Int) + 1) = ((j + 1 : Nat) : Int) := (wrap64_in (by omega) (by have := HK.out; omega)).trans (by omega)
      obtain ⟨o, ho⟩ : ∃ o, o = comO q l k q' k' j := ⟨_, rfl⟩
      rw [← ho] at hstep
      have HJ := hid hj; have HST := hid hstep; have HLT := hid hlt
      by_cases he : p = p'
      · have hst : comO q l k q' k' (j + 1) = (p : Int) := by rw [hstep, if_pos (hiff.1 he)]
        have HST2 := hid hst
        have he2 : (p : Int) = (p' : Int) := by omega
        have HE := hid he2
        rw [← ho]
        clear hst hiff hstep hp hp' ho hj hlt he HST
        rw [← HE.out] at h2
        clear he2
        go_wp2
        go_quiet (fail)
        go_wp2
        have hj := HJ.out; have hlt := HLT.out
        go_roundg (min k k' + 1 - j - 1)
        case measure => omega
        case rel => exact ⟨j + 1, _, by omega, by try rw [hwj], by rw [HST2.out], rfl⟩
      · have hst : comO q l k q' k' (j + 1) = o := by rw [hstep, if_neg (fun h => he (hiff.2 h))]
        have HST2 := hid hst
        have he2 : ¬ (p : Int) = (p' : Int) := by omega
        rw [← ho]
        clear hst hiff hstep hp hp' ho hj hlt HST
        go_wp2
        go_quiet (fail)
        go_wp2
        have hj := HJ.out; have hlt := HLT.out
        go_roundg (min k k' + 1 - j - 1)
        case measure => omega
        case rel => exact ⟨j + 1, _, by omega, by try rw [hwj], by rw [HST2.out], rfl⟩
    · obtain rfl : j = min k k' + 1 := by omega
      obtain ⟨o, ho⟩ : ∃ o, o = comO q l k q' k' (min k k' + 1) := ⟨_, rfl⟩
      have hcase : (¬ ((min k k' + 1 : Nat) : Int) < (m : Int)) ∨ (((min k k' + 1 : Nat) : Int) < (m : Int) ∧ ¬ ((min k k' + 1 : Nat) : Int) < (m' : Int)) := by have := HM.out; omega
      obtain ⟨i, hi⟩ : ∃ i : Nat, i = min k k' + 1 := ⟨_, rfl⟩
      rw [← hi] at hcase ho ⊢
      have HO := hid ho
      rw [← ho]
      clear ho hj hlt
      rcases hcase with h | ⟨h, h'⟩
      · go_wp2
        go_ret
        exact ⟨by rw [← hi, ← HO.out]; rfl, belowB_drewN HB2.out _⟩
      · go_wp2
        go_ret
        exact ⟨by rw [← hi, ← HO.out]; rfl, belowB_drewN HB2.out _⟩
theorem Common14_no (x y n : Int) (w : World) (h : ¬ inT x n ∨ ¬ inT y n) : Calls Try.prog 30 #[.int .i64 x, .int .i64 y, .int .i64 n] w fun e w' => e = .returned (.int .i64 (-1)) ∧ Below w.heap.size w w' := by
  have HD : Hid (∀ z W, Calls Try.prog 35 #[.int .i64 z, .int .i64 n] W fun e w' => (¬ inT z n → e = .returned (.slice none 0 0)) ∧ (∃ A m c, e = .returned (.slice A m c)) ∧ Below W.heap.size W w') := hid fun z W => by
    by_cases hz : inT z n
    · have hz' := hz
      obtain ⟨q, l, k, hq, hk, rfl, rfl⟩ := hz'
      exact (Down14_ok q l k W hq hk).mono fun e w' ⟨b, c, he, _, hb⟩ => ⟨fun h => absurd hz h, ⟨_, _, _, he⟩, hb⟩
    · exact (Down14_no z n W hz).mono fun e w' ⟨he, hw⟩ => ⟨fun _ => he, ⟨_, _, _, he⟩, by rw [hw]; exact Below.refl _ _⟩
  have HH := hid h
  clear h
  go_enter Try.func30, Try.ntmps30
  go_wp2_with fail
  refine (HD.out x _).mono ?_
  rintro e w1 ⟨hn1, ⟨A, m, c, rfl⟩, hb⟩
  have HB := hid hb; have HN1 := hid hn1
  clear hb hn1
  go_wp2_with fail
  refine (HD.out y _).mono ?_
  rintro e w2 ⟨hn2, ⟨A', m', c', rfl⟩, hb⟩
  have HB2 := hid (HB.out.trans (hb.mono HB.out.size)); have HN2 := hid hn2
  clear hb hn2 HB HD
  rcases HH.out with h | h
  · have h1 := HN1.out h
    simp only [Ending.returned.injEq, Value.slice.injEq] at h1
    obtain ⟨rfl, rfl, rfl⟩ := h1
    clear HH h HN1 HN2
    go_wp2
    go_loopg [9, 10] 0 (fun r out i wr => i = .int .i64 0 ∧ out = .int .i64 (-1) ∧ wr = w2)
    case atStart => exact ⟨rfl, rfl, rfl⟩
    case round =>
      obtain ⟨rfl, rfl, rfl⟩ := hrel
      go_wp2
      go_ret
      exact ⟨rfl, HB2.out⟩
  · have h1 := HN2.out h
    simp only [Ending.returned.injEq, Value.slice.injEq] at h1
    obtain ⟨rfl, rfl, rfl⟩ := h1
    clear HH h HN1 HN2
    have hcase : (0 : Int) < (m : Int) ∨ ¬ (0 : Int) < (m : Int) := by omega
    have HC := hid hcase
    clear hcase
    go_wp2
    go_loopg [9, 10] 0 (fun r out i wr => i = .int .i64 0 ∧ out = .int .i64 (-1) ∧ wr = w2)
    case atStart => exact ⟨rfl, rfl, rfl⟩
    case round =>
      obtain ⟨rfl, rfl, rfl⟩ := hrel
      rcases HC.out with h | h
      · have h2 : 0 < m := by omega
        go_wp2
        go_ret
        exact ⟨rfl, HB2.out⟩
      · have h2 : ¬ 0 < m := by omega
        go_wp2
        go_ret
        exact ⟨rfl, HB2.out⟩
/-- What is beneath what. -/
def undB (q l r m : Nat) : Bool := decide (loN r m ≤ nd q l) && decide (nd q l ≤ hiN r m)
set_option maxHeartbeats 1000000 in
theorem Under14_ok (q l k r m k' : Nat) (w : World) (hq : q < 2 ^ k) (hk : l + k = 16) (hr : r < 2 ^ k') (hk' : m + k' = 16) : Calls Try.prog 32 #[.int .i64 (nd q l : Int), .int .i64 (nd r m : Int)] w fun e w' => e = .returned (.bool (undB q l r m)) ∧ Below w.heap.size w w' := by
  have HK := hid (fun W => Last14_ok q l k W hq (by omega))
  have HK' := hid (fun W => Last14_ok r m k' W hr (by omega))
  rw [hk, show ((2 ^ 16 : Nat) : Int) = 65536 by decide] at HK
  rw [hk', show ((2 ^ 16 : Nat) : Int) = 65536 by decide] at HK'
  have HB := hid box_cells
  obtain ⟨x, hx⟩ : ∃ x : Nat, x = nd q l := ⟨_, rfl⟩
  obtain ⟨y, hy⟩ : ∃ x : Nat, x = nd r m := ⟨_, rfl⟩
  obtain ⟨lo, hlo⟩ : ∃ x : Nat, x = loN r m := ⟨_, rfl⟩
  obtain ⟨hi, hhi⟩ : ∃ x : Nat, x = hiN r m := ⟨_, rfl⟩
  have hU : undB q l r m = (decide (lo ≤ x) && decide (x ≤ hi)) := by unfold undB; rw [hx, hlo, hhi]
  rw [hU]
  rw [← hx] at HK
  rw [← hy] at HK'
  rw [← hx, ← hy]
  have HX := hid hx; have HLO := hid hlo; have HHI := hid hhi
  clear hx hy hlo hhi hU hq hk hr hk'
  go_enter Try.func32, Try.ntmps32
  go_wp2_with fail
  refine (HK.out _).mono ?_
  rintro e w1 ⟨rfl, hb⟩
  have hZ := hid (heap_alloc_new w1 (.cells z3 TN))
  obtain ⟨h0, h1, h2⟩ := HB.out w1 q l
  have HB2 := hid (hb.trans ((box_below w1 (ndA q l)).mono hb.size))
  have H0 := hid h0
  clear hb HK h0 h1 h2
  go_wp2_with (first | (with_reducible refine wpList_store_row rfl TN (.tmp 5) _ rfl w1.heap.size (ndA q l) rfl rfl TN z3 hZ.out infoNd ndA_size ndA_one ?_))
  have hlt : w1.heap.size < ((w1.alloc (.cells z3 TN)).setRow w1.heap.size (ndA q l)).heap.size := by simp
  rw [← HX.out] at H0
  clear hZ
  go_wp2_with fail
  refine (HK'.out _).mono ?_
  rintro e w3 ⟨rfl, hb⟩
  have hZ := hid (heap_alloc_new w3 (.cells z3 TN))
  obtain ⟨h0, h1, h2⟩ := HB.out w3 r m
  have hbb := box_below w3 (ndA r m)
  have H02 := hid ((hbb.cell (p := ⟨w1.heap.size, 0, none⟩) (Nat.lt_of_lt_of_le hlt hb.size)).trans ((hb.cell (p := ⟨w1.heap.size, 0, none⟩) hlt).trans H0.out))
  have hlt3 : w1.heap.size < w3.heap.size := Nat.lt_of_lt_of_le hlt hb.size
  have HB3 := hid (HB2.out.trans ((hb.trans (hbb.mono hb.size)).mono HB2.out.size))
  rw [← HLO.out] at h1
  rw [← HHI.out] at h2
  clear hb hbb HB2 HK' h0 H0 hlt
  have h0 := H02.out
  by_cases hc : lo ≤ x
  · have hc2 : (lo : Int) ≤ (x : Int) := by omega
    go_wp2_with (first | (with_reducible refine wpList_store_row rfl TN (.tmp 7) _ rfl w3.heap.size (ndA r m) rfl rfl TN z3 hZ.out infoNd ndA_size ndA_one ?_))
    go_ret
    exact ⟨by rw [decide_eq_true hc]; rfl, HB3.out⟩
  · have hc2 : ¬ (lo : Int) ≤ (x : Int) := by omega
    go_wp2_with (first | (with_reducible refine wpList_store_row rfl TN (.tmp 7) _ rfl w3.heap.size (ndA r m) rfl rfl TN z3 hZ.out infoNd ndA_size ndA_one ?_))
    go_ret
    exact ⟨by rw [decide_eq_false hc]; rfl, HB3.out⟩
theorem info_sz {cs : Array Value} (h : z3.size = cs.size) : (Try.prog.info? TN).map (·.size) = some cs.size := by rw [← h]; exact infoZ3
set_option maxHeartbeats 1000000 in
theorem Under14_no (x y : Int) (w : World) (h : ¬ inT x 65536 ∨ ¬ inT y 65536) : Calls Try.prog 32 #[.int .i64 x, .int .i64 y] w fun e w' => e = .returned (.bool false) ∧ Below w.heap.size w w' := by
  have HK : Hid (∀ z W, Calls Try.prog 12 #[.int .i64 z, .int .i64 65536] W fun e w' => ∃ (cs : Array Value) (b : Bool), e = .returned (.tuple #[.agg cs, .bool b]) ∧ (¬ inT z 65536 → b = false) ∧ z3.size = cs.size ∧ cs.all (·.oneCell') = true ∧ Below W.heap.size W w') := hid fun z W => by
    by_cases hz : inT z 65536
    · have hz' := hz
      obtain ⟨q, l, k, hq, hk, rfl, hn⟩ := hz'
      rw [hn]
      exact (Last14_ok q l k W hq hk).mono fun e w' ⟨he, hb⟩ => ⟨_, _, he, fun h => absurd hz (by rw [hn]; exact h), rfl, ndA_one, hb⟩
    · exact (Last14_no z 65536 W hz).mono fun e w' ⟨he, hb⟩ => ⟨_, _, he, fun _ => rfl, rfl, z3_one, hb⟩
  have HH := hid h
  clear h
  go_enter Try.func32, Try.ntmps32
  go_wp2_with fail
  refine (HK.out x _).mono ?_
  rintro e w1 ⟨cs, p, rfl, hp, hs, h1, hb⟩
  have hZ := hid (heap_alloc_new w1 (.cells z3 TN))
  have HB2 := hid (hb.trans ((box_below w1 cs).mono hb.size))
  have HS := hid hs; have H1 := hid h1; have HP := hid hp
  clear hb hp hs h1
  go_wp2_with (first | (with_reducible refine wpList_store_row rfl TN (.tmp 5) _ rfl w1.heap.size cs rfl rfl TN z3 hZ.out (info_sz HS.out) HS.out H1.out ?_))
  refine (HK.out y _).mono ?_
  rintro e w3 ⟨cs', p', rfl, hp', hs', h1', hb⟩
  have hZ := hid (heap_alloc_new w3 (.cells z3 TN))
  have hbb := box_below w3 cs'
  have HB3 := hid (HB2.out.trans ((hb.trans (hbb.mono hb.size)).mono HB2.out.size))
  have HS' := hid hs'; have H1' := hid h1'; have HP' := hid hp'
  clear hb hbb HB2 HK hp' hs' h1'
  rcases p with _ | _
  · go_wp2_with (first | (with_reducible refine wpList_store_row rfl TN (.tmp 7) _ rfl w3.heap.size cs' rfl rfl TN z3 hZ.out (info_sz HS'.out) HS'.out H1'.out ?_))
    go_ret
    exact ⟨rfl, HB3.out⟩
  · have hpf : p' = false := HP'.out (HH.out.resolve_left fun h => by cases HP.out h)
    subst hpf
    go_wp2_with (first | (with_reducible refine wpList_store_row rfl TN (.tmp 7) _ rfl w3.heap.size cs' rfl rfl TN z3 hZ.out (info_sz HS'.out) HS'.out H1'.out ?_))
    go_ret
    exact ⟨rfl, HB3.out⟩
theorem Lie.numI {w : World} {B : Nat} {A : Option Addr} {xs : List Nat} (h : Lie w B A (ivs xs)) {k : Nat} (hk : k < xs.length) : ∃ b o, A = some ⟨b, o, none⟩ ∧ b < B ∧ w.cell? ⟨b, o + k, none⟩ = some (.int .i64 (xs[k] : Int)) := by
  obtain ⟨b, o, hA, hb, hc⟩ := h.at_ (k := k) (by simpa using hk)
  exact ⟨b, o, hA, hb, by rw [hc]; simp [ivs]⟩
set_option maxHeartbeats 800000 in
theorem Same14_any (A : Option Addr) (xs : List Nat) (c : Nat) (A' : Option Addr) (ys : List Nat) (c' : Nat) (w : World) (B B' : Nat) (hA : Lie w B A (ivs xs)) (hA' : Lie w B' A' (ivs ys)) (hm : xs.length ≤ 140737488355328) :
    Calls Try.prog 24 #[.slice A xs.length c, .slice A' ys.length c'] w fun e w' => e = .returned (.bool (xs == ys)) ∧ ∃ n, w' = w.drewN n := by
  by_cases hl : xs.length = ys.length
  · have hl2 : ((xs.length : Int) != (ys.length : Int)) = false := by simp [hl]
    have HL := hid hl
    clear hl
    go_enter Try.func24, Try.ntmps24
    go_wp2
    go_loopg [5] xs.length (fun g i wr => ∃ k n : Nat, k + g = xs.length ∧ i = .int .i64 (k : Int) ∧ xs.take k = ys.take k ∧ wr = w.drewN n)
    case atStart => exact ⟨0, 0, by omega, rfl, rfl, rfl⟩
    case round =>
      obtain ⟨k, n, hk, rfl, ht, rfl⟩ := hrel
      have HT := hid ht
      have HK := hid hk
      clear ht hk
      by_cases hlt : k < xs.length
      · have hlt2 : k < ys.length := by rw [← HL.out]; exact hlt
        obtain ⟨b, o, rfl, hb, hc⟩ := hA.numI hlt
        obtain ⟨b', o', rfl, hb', hc'⟩ := hA'.numI hlt2
        have hx : (k : Int) < (xs.length : Int) := by omega
        have hy : (k : Int) < (ys.length : Int) := by omega
        have h0 : (0 : Int) ≤ (k : Int) := by omega
        have hstep := hid (take_eq_step xs ys k hlt hlt2 HT.out)
        by_cases he : xs[k] = ys[k]
        · have he2 : ((xs[k] : Int) != (ys[k] : Int)) = false := by simp [he]
          have HE := hid he
          clear he
          go_wp2
          go_quiet (fail)
          go_wp2
          have hk := HK.out
          go_roundg (gk - 1)
          case measure => omega
          case rel => exact ⟨k + 1, _, by omega, by go_num, hstep.out.2 HE.out, rfl⟩
        · have he2 : ((xs[k] : Int) != (ys[k] : Int)) = true := by rw [bne_iff_ne]; omega
          have HE := hid he
          have HF : Hid ((xs == ys) = false) := hid (by
            rw [beq_eq_false_iff_ne]
            intro e
            subst e
            exact he rfl)
          clear he
          go_wp2
          go_quiet (fail)
          go_wp2
          go_ret
          exact ⟨by rw [HF.out]; rfl, _, World.drewN_drewN _ _ _⟩
      · have hk := HK.out
        obtain rfl : k = xs.length := by omega
        have HF : Hid ((xs == ys) = true) := hid (by
          have h := HT.out
          rw [List.take_length, HL.out, List.take_length] at h
          rw [beq_iff_eq]; exact h)
        clear hk
        go_wp2
        go_ret
        exact ⟨by rw [HF.out]; rfl, _, rfl⟩
  · have hl2 : ((xs.length : Int) != (ys.length : Int)) = true := by rw [bne_iff_ne]; omega
    have HF : Hid ((xs == ys) = false) := hid (by
      rw [beq_eq_false_iff_ne]
      intro e
      subst e
      exact hl rfl)
    clear hl
    go_enter Try.func24, Try.ntmps24
    go_wp2
    go_ret
    exact ⟨by rw [HF.out]; rfl, 0, rfl⟩
end Go.Proofs.Ytaoddlcoedodcaa
