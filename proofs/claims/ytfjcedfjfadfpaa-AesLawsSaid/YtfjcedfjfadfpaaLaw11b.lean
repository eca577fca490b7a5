/-
  The laws of layer 11: without the document.
-/
import Derived.Test.YtfjcedfjfadfpaaLaw11a
import Derived.Test.YtfjcedfjfadfpaaAesI
import Derived.Test.YtfjcedfjfadfpaaSame
namespace Go.Proofs.Ytfjcedfjfadfpaa
open Go.RowKit
set_option linter.unusedVariables false
set_option linter.unusedSimpArgs false

/-- An append that is wanted, guarded or not. -/
theorem wpList_append_if {P : Program} {w : World} {ops : Array Oper} {rest : List Oper} {o : Oper} {a : Act} {Q : Exit → Act → World → Prop} (hw : Region.wanted o (yielded ops a.tmps) = true) (s x : Operand) (t : TypeId)
    (ho : o.op = .call { callee := .builtin .append, args := #[s, x], argTypes := #[t, t] })
    (base : Nat) (e : TypeId) (z : Value) (bytes : Nat) (ht : P.underlying t = some (.slice e))
    (hinfo : (P.info? e).map (fun i => (i.zero, i.size, i.bytes)) = some (some z, 1, bytes)) (hzs : z.cells.size = 1)
    {v : Value} {n : Nat} {xs : List Value} (hs : a.eval s = v) (hown : w.ownsRow base e 1 v n xs) {B : Nat} {A : Option Addr} {news : List Value} {c m : Nat} (hm : news.length = m) (hx : a.eval x = .slice A m c) (hr : Lie w B A news)
    (h1 : ∀ u ∈ news, u.oneCell' = true) (h63 : n + m ≤ maxLen) (hbytes : (n + m) * bytes ≤ 140737488355328) (hbase : base ≤ w.heap.size)
    (h : ∀ v' w', w'.ownsRow base e 1 v' (n + m) (xs ++ news) → w.grownBy w' v.ownBlock → (v'.ownBlock = v.ownBlock ∨ v'.ownBlock = some w.heap.size) → wpList P ops Q rest (a.put o.dst v') w') :
    wpList P ops Q (o :: rest) a w :=
  BigFrame.wpList_want hw fun _ hK => wp_append_lie s x t ho base e z bytes ht hinfo hzs hs hown hm hx hr h1 h63 hbytes hbase fun v' w' h2 h3 h4 => hK _ _ (h v' w' h2 h3 h4)
theorem row_none (W : World) (e : TypeId) {k base : Nat} (h : W.heap.size = k) (hb : base ≤ k) : (W.alloc (.cells #[] e)).ownsRow base e 1 (.slice (some ⟨k, 0, none⟩) 0 0) 0 [] := by
  subst h
  exact World.ownsRow_lit W #[] 0 hb (by simp) rfl
theorem below_drewK {B : Nat} {a w : World} (h : Below B a w) (n : Nat) : Below B a (w.drewN n) := ⟨h.os, h.tape, h.output, h.size, h.block⟩
theorem u8_xor_n (a b : Nat) (ha : a < 256) (hb : b < 256) : bits .xor .u8 (a : Int) (b : Int) = ((a ^^^ b : Nat) : Int) := u8_xor_nat a b ha hb
set_option maxRecDepth 100000 in
set_option maxHeartbeats 4000000 in
theorem laws11_any (za zb zc : Int) (A : Option Addr) (key : List UInt8) (c : Nat) (A1 : Option Addr) (one : List UInt8) (c1 : Nat) (A2 : Option Addr) (two : List UInt8) (c2 : Nat) (w : World)
    (ha0 : 0 ≤ za) (ha1 : za ≤ 255) (hb0 : 0 ≤ zb) (hb1 : zb ≤ 255) (hc0 : 0 ≤ zc) (hc1 : zc ≤ 255) (hS : Sq w w.heap.size A c (bvs key)) (hS1 : Sq w w.heap.size A1 c1 (bvs one)) (hS2 : Sq w w.heap.size A2 c2 (bvs two)) :
    Calls Try.prog 5 #[.int .u8 za, .int .u8 zb, .int .u8 zc, .slice A key.length c, .slice A1 one.length c1, .slice A2 two.length c2] w fun e w' => e = .returned (.bool true) ∧ Below w.heap.size w w' := by
  obtain ⟨a, rfl⟩ := Int.eq_ofNat_of_zero_le ha0
  obtain ⟨b, rfl⟩ := Int.eq_ofNat_of_zero_le hb0
  obtain ⟨d, rfl⟩ := Int.eq_ofNat_of_zero_le hc0
  have ha : a < 256 := by omega
  have hb : b < 256 := by omega
  have hd : d < 256 := by omega
  have KA := hid (alive11_any w)
  have hbd : b ^^^ d < 256 := xor_b hb hd
  have K1 : Hid (∀ W, _) := hid fun W => Times_any a b W ha hb
  have K2 : Hid (∀ W, _) := hid fun W => Times_any b a W hb ha
  rw [tm_comm hb ha] at K2
  have K3 : Hid (∀ W, _) := hid fun W => Times_any a (b ^^^ d) W ha hbd
  have K4 : Hid (∀ W, _) := hid fun W => Times_any a d W ha hd
  have K5 : Hid (∀ W, _) := hid fun W => Times_any (tmN a b) d W (tm_lt ha hb) hd
  have K6 : Hid (∀ W, _) := hid fun W => Times_any b d W hb hd
  have K7 : Hid (∀ W, _) := hid fun W => Times_any a (tmN b d) W ha (tm_lt hb hd)
  rw [← tm_assoc ha hb hd] at K7
  have K8 : Hid (∀ W, Calls Try.prog 7 #[.int .u8 (a : Int), .int .u8 1] W fun e w' => e = .returned (.int .u8 (a : Int)) ∧ W = w') := hid fun W => by
    have h := Times_any a 1 W ha (by omega)
    rw [tm_one a ha] at h
    exact h
  have x1 := u8_xor_n b d hb hd
  have x2 := u8_xor_n (tmN a b) (tmN a d) (tm_lt ha hb) (tm_lt ha hd)
  rw [← tm_xor_right] at x2
  have K9 : Hid (∀ W, _) := hid fun W => Box_any a W ha
  have K10 : Hid (∀ W, _) := hid fun W => Box_any b W hb
  obtain ⟨eq, heq⟩ : ∃ e : Bool, e = ((a : Int) == (b : Int)) := ⟨_, rfl⟩
  have hbx : ((boxC a : Int) == (boxC b : Int)) = eq := by
    rw [heq]
    by_cases h : a = b
    · rw [h]; simp
    · have h2 : ¬ boxC a = boxC b := fun e => h (boxC_inj ha hb e)
      rw [beq_eq_false_iff_ne.2 (by omega), beq_eq_false_iff_ne.2 (by omega)]
  have hnz : a ≠ 0 → b ≠ 0 → tmN a b ≠ 0 := fun h0 h1 h => h1 (tm_none ha hb h0 h)
  obtain ⟨tab, htab⟩ : ∃ t, t = tmN a b := ⟨_, rfl⟩
  obtain ⟨tad, htad⟩ : ∃ t, t = tmN a d := ⟨_, rfl⟩
  obtain ⟨tbd, htbd⟩ : ∃ t, t = tmN b d := ⟨_, rfl⟩
  obtain ⟨tx, htx⟩ : ∃ t, t = tmN a (b ^^^ d) := ⟨_, rfl⟩
  rw [← htx] at K3 x2
  rw [← htbd] at K6 K7
  rw [← htab] at K1 K2 K5 K7 x2 hnz
  rw [← htad] at K4 x2
  obtain ⟨tq, htq⟩ : ∃ t, t = tmN tab d := ⟨_, rfl⟩
  rw [← htq] at K5 K7
  obtain ⟨bd, hbde⟩ : ∃ t, t = b ^^^ d := ⟨_, rfl⟩
  rw [← hbde] at K3 x1
  obtain ⟨xa, hxa⟩ : ∃ t, t = boxC a := ⟨_, rfl⟩
  obtain ⟨xb, hxb⟩ : ∃ t, t = boxC b := ⟨_, rfl⟩
  rw [← hxa] at K9 hbx
  rw [← hxb] at K10 hbx
  have HS := hid hS; have HS1 := hid hS1; have HS2 := hid hS2
  have heq2 := heq.symm
  have hnb : ∀ (W : World) (p q : Bool), (binOp .neq 4 (.bool p) (.bool q)).run Try.prog W = .ok (.bool (!(p == q))) W := fun W p q => run_neq_bool W 4 p q Try.underlying4
  clear hS hS1 hS2 ha0 ha1 hb0 hb1 hc0 hc1 ha hb hd hbd heq htab htad htbd htx htq hbde hxa hxb
  have hcase : a = 0 ∨ (a ≠ 0 ∧ b = 0) ∨ (a ≠ 0 ∧ b ≠ 0) := by omega
  go_enter Try.func5, Try.ntmps5
  go_wp2_with fail
  refine KA.out.mono ?_
  rintro e w1 ⟨rfl, hb1⟩
  have HB1 := hid hb1
  clear hb1
  go_wp2_with fail
  refine (K1.out _).mono ?_
  rintro e w' ⟨rfl, rfl⟩
  go_wp2_with fail
  refine (K2.out _).mono ?_
  rintro e w' ⟨rfl, rfl⟩
  go_wp2_with fail
  refine (K3.out _).mono ?_
  rintro e w' ⟨rfl, rfl⟩
  go_wp2_with fail
  refine (K1.out _).mono ?_
  rintro e w' ⟨rfl, rfl⟩
  go_wp2_with fail
  refine (K4.out _).mono ?_
  rintro e w' ⟨rfl, rfl⟩
  go_wp2_with fail
  refine (K1.out _).mono ?_
  rintro e w' ⟨rfl, rfl⟩
  go_wp2_with fail
  refine (K5.out _).mono ?_
  rintro e w' ⟨rfl, rfl⟩
  go_wp2_with fail
  refine (K6.out _).mono ?_
  rintro e w' ⟨rfl, rfl⟩
  go_wp2_with fail
  refine (K7.out _).mono ?_
  rintro e w' ⟨rfl, rfl⟩
  go_wp2_with fail
  refine (K8.out _).mono ?_
  rintro e w' ⟨rfl, rfl⟩
  rcases hcase with rfl | ⟨h0, rfl⟩ | ⟨h0, h1⟩
  · have heq3 : ((0 : Int) == (b : Int)) = eq := heq2
    have hz : (((0 : Nat) : Int) != 0) = false := rfl
    go_wp2_with fail
    refine (K9.out _).mono ?_
    rintro e w' ⟨rfl, k9, rfl⟩
    go_wp2_with fail
    refine (K10.out _).mono ?_
    rintro e w' ⟨rfl, k10, rfl⟩
    have HW2 : Hid (Below w.heap.size w (w1.drewN (k9 + k10))) := hid (by have h := HB1.out; exact ⟨h.os, h.tape, h.output, h.size, h.block⟩)
    simp only [World.drewN_drewN] at *
    clear HB1
    generalize w1.drewN (k9 + k10) = w2 at *
    by_cases hn : key.length = 16
    · by_cases hn1 : one.length = 16
      · by_cases hn2 : two.length = 16
        · have hj : ((key.length : Int) != 16) = false := by rw [hn]; rfl
          have hj1 : ((one.length : Int) != 16) = false := by rw [hn1]; rfl
          have hj2 : ((two.length : Int) != 16) = false := by rw [hn2]; rfl
          have hz2s := HW2.out.size
          have HAL1 : Hid (Lie (w2.alloc (.cells #[] 5)) w.heap.size A (bvs key)) := hid ((HS.out.lie.below HW2.out).alloc hz2s _)
          have HAK : Hid (key.length ≤ 16) := hid (by omega)
          have HAO : Hid (one.length ≤ 16) := hid (by omega)
          have HN := hid hn; have HN1 := hid hn1; have HN2 := hid hn2
          clear hn hn1 hn2
          go_wp2_with (at_builtin; refine wpList_append_lie rfl _ _ 28 rfl w2.heap.size 5 (.int .u8 0) 1 Try.underlying28 infoU8 rfl rfl (row_none _ _ (k := w2.heap.size) rfl (Nat.le_refl _)) (bvs_length key) rfl HAL1.out (bvs_one key) ?d1 ?d2 ?d3 ?_)
          case d1 => have := HAK.out; unfold maxLen; omega
          case d2 => have := HAK.out; omega
          case d3 => simp
          intro v3 w3 hown3 hg3 _
          have hO3 : w3.ownsRow w2.heap.size 5 1 v3 key.length (bvs key) := by simpa using hown3
          have hB3 : Below w.heap.size w w3 := (HW2.out.alloc hz2s _).grown hg3 (by simp; omega) (fun q h => by simp [Value.ownBlock] at h; omega)
          have hz3 : w2.heap.size ≤ w3.heap.size := Nat.le_trans (by simp) hg3.size
          have HO3 := hid hO3; have HB3 := hid hB3
          have HAL3 : Hid (Lie w3 w.heap.size A1 (bvs one)) := hid (HS1.out.lie.below hB3)
          clear hown3 hg3 hO3 hB3 HAL1
          go_wp2_with (at_builtin; refine wpList_append_lie rfl (.tmp 99) (.tmp 100) 28 rfl w2.heap.size 5 (.int .u8 0) 1 Try.underlying28 infoU8 rfl rfl HO3.out (bvs_length one) rfl HAL3.out (bvs_one one) ?d1 ?d2 ?d3 ?_)
          case d1 => have := HAK.out; have := HAO.out; unfold maxLen; omega
          case d2 => have := HAK.out; have := HAO.out; omega
          case d3 => exact hz3
          intro v4 w4 hown4 hg4 _
          have hO4 : w4.ownsRow w2.heap.size 5 1 v4 (key.length + one.length) (bvs (key ++ one)) := by rw [bvs_append]; exact hown4
          have hB4 : Below w.heap.size w w4 := HB3.out.grown hg4 HB3.out.size (fun q h => by have := own_lt HO3.out q h; omega)
          obtain ⟨A4, c4, rfl, hS4⟩ := own_sl hO4
          have HL4 : Hid (Lie w4 w4.heap.size A4 (bvs (key ++ one))) := hid hS4.lie
          have HB4 := hid hB4
          clear hown4 hg4 hO4 hB4 hS4 HO3 HB3 HAL3
          have KB1 : Hid (Calls Try.prog 11 #[.slice A key.length c, .slice A1 one.length c1] w4 fun e w' => ∃ v, e = .returned (.tuple #[v, .bool true]) ∧ OwnB w' w4.heap.size v (blkL (sealN (bf key) (bf one))) ∧ Below w4.heap.size w4 w') := hid (by
            have h := Block_any A A1 key one key.length one.length c c1 w4 ((HS.out.below HB4.out).more HB4.out.size) ((HS1.out.below HB4.out).more HB4.out.size) rfl rfl
            exact h.mono fun e w' h => by rw [if_pos ⟨HN.out, HN1.out⟩] at h; exact h)
          go_wp2_with fail
          refine KB1.out.mono ?_
          rintro e w5 ⟨v5, rfl, ho5, hb5⟩
          obtain ⟨A5, c5, rfl, hS5⟩ := own_sl ho5
          rw [blkL_length]
          have HB5 : Hid (Below w.heap.size w w5) := hid (HB4.out.trans (hb5.mono HB4.out.size))
          have HL5 : Hid (Lie w5 w5.heap.size A5 (bvs (blkL (sealN (bf key) (bf one))))) := hid hS5.lie
          have HL4' : Hid (Lie w5 w5.heap.size A4 (bvs (key ++ one))) := hid ((HL4.out.below hb5).more hb5.size)
          clear ho5 hS5 hb5 HL4 HB4 KB1
          have KB2 : Hid (Calls Try.prog 11 #[.slice A key.length c, .slice A2 two.length c2] w5 fun e w' => ∃ v, e = .returned (.tuple #[v, .bool true]) ∧ OwnB w' w5.heap.size v (blkL (sealN (bf key) (bf two))) ∧ Below w5.heap.size w5 w') := hid (by
            have h := Block_any A A2 key two key.length two.length c c2 w5 ((HS.out.below HB5.out).more HB5.out.size) ((HS2.out.below HB5.out).more HB5.out.size) rfl rfl
            exact h.mono fun e w' h => by rw [if_pos ⟨HN.out, HN2.out⟩] at h; exact h)
          go_wp2_with fail
          refine KB2.out.mono ?_
          rintro e w6 ⟨v6, rfl, ho6, hb6⟩
          obtain ⟨A6, c6, rfl, hS6⟩ := own_sl ho6
          rw [blkL_length]
          have HB6 : Hid (Below w.heap.size w w6) := hid (HB5.out.trans (hb6.mono HB5.out.size))
          have HL6 : Hid (Lie w6 w6.heap.size A6 (bvs (blkL (sealN (bf key) (bf two))))) := hid hS6.lie
          have HL4 : Hid (Lie w6 w6.heap.size A4 (bvs (key ++ one))) := hid ((HL4'.out.below hb6).more hb6.size)
          have HL5' : Hid (Lie w6 w6.heap.size A5 (bvs (blkL (sealN (bf key) (bf one))))) := hid ((HL5.out.below hb6).more hb6.size)
          obtain ⟨s, hs⟩ : ∃ s : Bool, s = (one == two) := ⟨_, rfl⟩
          have KS1 : Hid (∀ (A5 A6 : Option Addr) (c5 c6 : Nat) (W : World), Lie W W.heap.size A5 (bvs (blkL (sealN (bf key) (bf one)))) → Lie W W.heap.size A6 (bvs (blkL (sealN (bf key) (bf two)))) → Calls Try.prog 15 #[.slice A5 (16 : Nat) c5, .slice A6 (16 : Nat) c6] W fun e w' => e = .returned (.bool s) ∧ ∃ n, w' = W.drewN n) := hid fun A5 A6 c5 c6 W h5 h6 => by
            have h := Same_any A5 (blkL (sealN (bf key) (bf one))) c5 A6 (blkL (sealN (bf key) (bf two))) c6 W _ _ h5 h6 (by rw [blkL_length]; omega)
            rw [sealed_same key one two HN1.out HN2.out, ← hs, blkL_length, blkL_length] at h
            exact h
          have KS2 : Hid (∀ W : World, Below w.heap.size w W → Calls Try.prog 15 #[.slice A1 one.length c1, .slice A2 two.length c2] W fun e w' => e = .returned (.bool s) ∧ ∃ n, w' = W.drewN n) := hid fun W hb => by
            rw [hs]
            exact Same_any A1 one c1 A2 two c2 W _ _ (HS1.out.lie.below hb) (HS2.out.lie.below hb) (by have := HN1.out; omega)
          clear ho6 hS6 hb6 HL4' HB5 HL5 KB2 hs
          have hss : (s == s) = true := beq_self_eq_true _
          go_wp2_with fail
          refine (KS1.out _ _ _ _ _ HL5'.out HL6.out).mono ?_
          rintro e w7 ⟨rfl, n7, rfl⟩
          go_wp2_with fail
          refine (KS2.out _ (below_drewK HB6.out n7)).mono ?_
          rintro e w8 ⟨rfl, n8, rfl⟩
          simp only [World.drewN_drewN] at *
          have HB8 : Hid (Below w.heap.size w (w6.drewN (n7 + n8))) := hid (below_drewK HB6.out _)
          have HL8 : Hid (Lie (w6.drewN (n7 + n8)) (w6.drewN (n7 + n8)).heap.size A4 (bvs (key ++ one))) := hid HL4.out
          clear HL4 HL5' HL6 HB6 KS1 KS2
          generalize w6.drewN (n7 + n8) = w8 at *
          have hz8 := HB8.out.size
          have HAL8 : Hid (Lie (w8.alloc (.cells #[] 5)) w.heap.size A (bvs key)) := hid ((HS.out.lie.below HB8.out).alloc hz8 _)
          go_wp2_with (at_builtin; refine wpList_append_if rfl _ _ 28 rfl w8.heap.size 5 (.int .u8 0) 1 Try.underlying28 infoU8 rfl rfl (row_none _ _ (k := w8.heap.size) rfl (Nat.le_refl _)) (bvs_length key) rfl HAL8.out (bvs_one key) (by have := HAK.out; unfold maxLen; omega) (by have := HAK.out; omega) (by simp) ?_)
          intro v9 w9 hown9 hg9 _
          have hO9 : w9.ownsRow w8.heap.size 5 1 v9 key.length (bvs key) := by simpa using hown9
          have hb9 : Below w8.heap.size w8 w9 := ((Below.refl _ _).alloc (Nat.le_refl _) _).grown hg9 (by simp) (fun q h => by simp [Value.ownBlock] at h; omega)
          have HO9 := hid hO9; have HB9 := hid hb9
          have HAL9 : Hid (Lie w9 w.heap.size A1 (bvs one)) := hid (HS1.out.lie.below (HB8.out.trans (hb9.mono hz8)))
          clear hown9 hg9 hO9 hb9 HAL8
          have hz9 := HB9.out.size
          go_wp2_with (at_builtin; refine wpList_append_if rfl _ _ 28 rfl w8.heap.size 5 (.int .u8 0) 1 Try.underlying28 infoU8 rfl rfl HO9.out (bvs_length one) rfl HAL9.out (bvs_one one) (by have := HAK.out; have := HAO.out; unfold maxLen; omega) (by have := HAK.out; have := HAO.out; omega) hz9 ?_)
          intro v10 w10 hown10 hg10 _
          have hO10 : w10.ownsRow w8.heap.size 5 1 v10 (key.length + one.length) (bvs (key ++ one)) := by rw [bvs_append]; exact hown10
          have hb10 : Below w8.heap.size w8 w10 := HB9.out.grown hg10 hz9 (fun q h => own_lt HO9.out q h)
          obtain ⟨A10, c10, rfl, hS10⟩ := own_sl hO10
          have KS3 : Hid (Calls Try.prog 15 #[.slice A10 (key.length + one.length) c10, .slice A4 (key.length + one.length) c4] w10 fun e w' => e = .returned (.bool true) ∧ ∃ n, w' = w10.drewN n) := hid (by
            have h := Same_any A10 (key ++ one) c10 A4 (key ++ one) c4 w10 _ _ hS10.lie (HL8.out.below hb10) (by rw [List.length_append]; have := HAK.out; have := HAO.out; omega)
            rw [beq_self_eq_true, List.length_append] at h
            exact h)
          have HB10 : Hid (Below w.heap.size w w10) := hid (HB8.out.trans (hb10.mono hz8))
          clear hown10 hg10 hO10 hb10 hS10 HO9 HB9 HAL9
          go_wp2_with fail
          refine KS3.out.mono ?_
          rintro e w11 ⟨rfl, n11, rfl⟩
          go_wp2
          go_ret
          exact ⟨by simp, below_drewK HB10.out _⟩
        · have hi : ¬ (two.length : Int) = 16 := by omega
          have hib : ((two.length : Int) != 16) = true := by rw [bne_iff_ne]; exact hi
          have hj : ((key.length : Int) != 16) = false := by rw [hn]; rfl
          have hj1 : ((one.length : Int) != 16) = false := by rw [hn1]; rfl
          go_wp2
          go_ret
          exact ⟨rfl, HW2.out⟩
      · have hi : ¬ (one.length : Int) = 16 := by omega
        have hib : ((one.length : Int) != 16) = true := by rw [bne_iff_ne]; exact hi
        have hj : ((key.length : Int) != 16) = false := by rw [hn]; rfl
        go_wp2
        go_ret
        exact ⟨rfl, HW2.out⟩
    · have hi : ¬ (key.length : Int) = 16 := by omega
      have hib : ((key.length : Int) != 16) = true := by rw [bne_iff_ne]; exact hi
      go_wp2
      go_ret
      exact ⟨rfl, HW2.out⟩
  · have heq3 : ((a : Int) == (0 : Int)) = eq := heq2
    have hz0 : ((a : Int) != 0) = true := by rw [bne_iff_ne]; omega
    have hz1 : (((0 : Nat) : Int) != 0) = false := rfl
    go_wp2_with fail
    refine (K9.out _).mono ?_
    rintro e w' ⟨rfl, k9, rfl⟩
    go_wp2_with fail
    refine (K10.out _).mono ?_
    rintro e w' ⟨rfl, k10, rfl⟩
    have HW2 : Hid (Below w.heap.size w (w1.drewN (k9 + k10))) := hid (by have h := HB1.out; exact ⟨h.os, h.tape, h.output, h.size, h.block⟩)
    simp only [World.drewN_drewN] at *
    clear HB1
    generalize w1.drewN (k9 + k10) = w2 at *
    by_cases hn : key.length = 16
    · by_cases hn1 : one.length = 16
      · by_cases hn2 : two.length = 16
        · have hj : ((key.length : Int) != 16) = false := by rw [hn]; rfl
          have hj1 : ((one.length : Int) != 16) = false := by rw [hn1]; rfl
          have hj2 : ((two.length : Int) != 16) = false := by rw [hn2]; rfl
          have hz2s := HW2.out.size
          have HAL1 : Hid (Lie (w2.alloc (.cells #[] 5)) w.heap.size A (bvs key)) := hid ((HS.out.lie.below HW2.out).alloc hz2s _)
          have HAK : Hid (key.length ≤ 16) := hid (by omega)
          have HAO : Hid (one.length ≤ 16) := hid (by omega)
          have HN := hid hn; have HN1 := hid hn1; have HN2 := hid hn2
          clear hn hn1 hn2
          go_wp2_with (at_builtin; refine wpList_append_lie rfl _ _ 28 rfl w2.heap.size 5 (.int .u8 0) 1 Try.underlying28 infoU8 rfl rfl (row_none _ _ (k := w2.heap.size) rfl (Nat.le_refl _)) (bvs_length key) rfl HAL1.out (bvs_one key) ?d1 ?d2 ?d3 ?_)
          case d1 => have := HAK.out; unfold maxLen; omega
          case d2 => have := HAK.out; omega
          case d3 => simp
          intro v3 w3 hown3 hg3 _
          have hO3 : w3.ownsRow w2.heap.size 5 1 v3 key.length (bvs key) := by simpa using hown3
          have hB3 : Below w.heap.size w w3 := (HW2.out.alloc hz2s _).grown hg3 (by simp; omega) (fun q h => by simp [Value.ownBlock] at h; omega)
          have hz3 : w2.heap.size ≤ w3.heap.size := Nat.le_trans (by simp) hg3.size
          have HO3 := hid hO3; have HB3 := hid hB3
          have HAL3 : Hid (Lie w3 w.heap.size A1 (bvs one)) := hid (HS1.out.lie.below hB3)
          clear hown3 hg3 hO3 hB3 HAL1
          go_wp2_with (at_builtin; refine wpList_append_lie rfl (.tmp 99) (.tmp 100) 28 rfl w2.heap.size 5 (.int .u8 0) 1 Try.underlying28 infoU8 rfl rfl HO3.out (bvs_length one) rfl HAL3.out (bvs_one one) ?d1 ?d2 ?d3 ?_)
          case d1 => have := HAK.out; have := HAO.out; unfold maxLen; omega
          case d2 => have := HAK.out; have := HAO.out; omega
          case d3 => exact hz3
          intro v4 w4 hown4 hg4 _
          have hO4 : w4.ownsRow w2.heap.size 5 1 v4 (key.length + one.length) (bvs (key ++ one)) := by rw [bvs_append]; exact hown4
          have hB4 : Below w.heap.size w w4 := HB3.out.grown hg4 HB3.out.size (fun q h => by have := own_lt HO3.out q h; omega)
          obtain ⟨A4, c4, rfl, hS4⟩ := own_sl hO4
          have HL4 : Hid (Lie w4 w4.heap.size A4 (bvs (key ++ one))) := hid hS4.lie
          have HB4 := hid hB4
          clear hown4 hg4 hO4 hB4 hS4 HO3 HB3 HAL3
          have KB1 : Hid (Calls Try.prog 11 #[.slice A key.length c, .slice A1 one.length c1] w4 fun e w' => ∃ v, e = .returned (.tuple #[v, .bool true]) ∧ OwnB w' w4.heap.size v (blkL (sealN (bf key) (bf one))) ∧ Below w4.heap.size w4 w') := hid (by
            have h := Block_any A A1 key one key.length one.length c c1 w4 ((HS.out.below HB4.out).more HB4.out.size) ((HS1.out.below HB4.out).more HB4.out.size) rfl rfl
            exact h.mono fun e w' h => by rw [if_pos ⟨HN.out, HN1.out⟩] at h; exact h)
          go_wp2_with fail
          refine KB1.out.mono ?_
          rintro e w5 ⟨v5, rfl, ho5, hb5⟩
          obtain ⟨A5, c5, rfl, hS5⟩ := own_sl ho5
          rw [blkL_length]
          have HB5 : Hid (Below w.heap.size w w5) := hid (HB4.out.trans (hb5.mono HB4.out.size))
          have HL5 : Hid (Lie w5 w5.heap.size A5 (bvs (blkL (sealN (bf key) (bf one))))) := hid hS5.lie
          have HL4' : Hid (Lie w5 w5.heap.size A4 (bvs (key ++ one))) := hid ((HL4.out.below hb5).more hb5.size)
          clear ho5 hS5 hb5 HL4 HB4 KB1
          have KB2 : Hid (Calls Try.prog 11 #[.slice A key.length c, .slice A2 two.length c2] w5 fun e w' => ∃ v, e = .returned (.tuple #[v, .bool true]) ∧ OwnB w' w5.heap.size v (blkL (sealN (bf key) (bf two))) ∧ Below w5.heap.size w5 w') := hid (by
            have h := Block_any A A2 key two key.length two.length c c2 w5 ((HS.out.below HB5.out).more HB5.out.size) ((HS2.out.below HB5.out).more HB5.out.size) rfl rfl
            exact h.mono fun e w' h => by rw [if_pos ⟨HN.out, HN2.out⟩] at h; exact h)
          go_wp2_with fail
          refine KB2.out.mono ?_
          rintro e w6 ⟨v6, rfl, ho6, hb6⟩
          obtain ⟨A6, c6, rfl, hS6⟩ := own_sl ho6
          rw [blkL_length]
          have HB6 : Hid (Below w.heap.size w w6) := hid (HB5.out.trans (hb6.mono HB5.out.size))
          have HL6 : Hid (Lie w6 w6.heap.size A6 (bvs (blkL (sealN (bf key) (bf two))))) := hid hS6.lie
          have HL4 : Hid (Lie w6 w6.heap.size A4 (bvs (key ++ one))) := hid ((HL4'.out.below hb6).more hb6.size)
          have HL5' : Hid (Lie w6 w6.heap.size A5 (bvs (blkL (sealN (bf key) (bf one))))) := hid ((HL5.out.below hb6).more hb6.size)
          obtain ⟨s, hs⟩ : ∃ s : Bool, s = (one == two) := ⟨_, rfl⟩
          have KS1 : Hid (∀ (A5 A6 : Option Addr) (c5 c6 : Nat) (W : World), Lie W W.heap.size A5 (bvs (blkL (sealN (bf key) (bf one)))) → Lie W W.heap.size A6 (bvs (blkL (sealN (bf key) (bf two)))) → Calls Try.prog 15 #[.slice A5 (16 : Nat) c5, .slice A6 (16 : Nat) c6] W fun e w' => e = .returned (.bool s) ∧ ∃ n, w' = W.drewN n) := hid fun A5 A6 c5 c6 W h5 h6 => by
            have h := Same_any A5 (blkL (sealN (bf key) (bf one))) c5 A6 (blkL (sealN (bf key) (bf two))) c6 W _ _ h5 h6 (by rw [blkL_length]; omega)
            rw [sealed_same key one two HN1.out HN2.out, ← hs, blkL_length, blkL_length] at h
            exact h
          have KS2 : Hid (∀ W : World, Below w.heap.size w W → Calls Try.prog 15 #[.slice A1 one.length c1, .slice A2 two.length c2] W fun e w' => e = .returned (.bool s) ∧ ∃ n, w' = W.drewN n) := hid fun W hb => by
            rw [hs]
            exact Same_any A1 one c1 A2 two c2 W _ _ (HS1.out.lie.below hb) (HS2.out.lie.below hb) (by have := HN1.out; omega)
          clear ho6 hS6 hb6 HL4' HB5 HL5 KB2 hs
          have hss : (s == s) = true := beq_self_eq_true _
          go_wp2_with fail
          refine (KS1.out _ _ _ _ _ HL5'.out HL6.out).mono ?_
          rintro e w7 ⟨rfl, n7, rfl⟩
          go_wp2_with fail
          refine (KS2.out _ (below_drewK HB6.out n7)).mono ?_
          rintro e w8 ⟨rfl, n8, rfl⟩
          simp only [World.drewN_drewN] at *
          have HB8 : Hid (Below w.heap.size w (w6.drewN (n7 + n8))) := hid (below_drewK HB6.out _)
          have HL8 : Hid (Lie (w6.drewN (n7 + n8)) (w6.drewN (n7 + n8)).heap.size A4 (bvs (key ++ one))) := hid HL4.out
          clear HL4 HL5' HL6 HB6 KS1 KS2
          generalize w6.drewN (n7 + n8) = w8 at *
          have hz8 := HB8.out.size
          have HAL8 : Hid (Lie (w8.alloc (.cells #[] 5)) w.heap.size A (bvs key)) := hid ((HS.out.lie.below HB8.out).alloc hz8 _)
          go_wp2_with (at_builtin; refine wpList_append_if rfl _ _ 28 rfl w8.heap.size 5 (.int .u8 0) 1 Try.underlying28 infoU8 rfl rfl (row_none _ _ (k := w8.heap.size) rfl (Nat.le_refl _)) (bvs_length key) rfl HAL8.out (bvs_one key) (by have := HAK.out; unfold maxLen; omega) (by have := HAK.out; omega) (by simp) ?_)
          intro v9 w9 hown9 hg9 _
          have hO9 : w9.ownsRow w8.heap.size 5 1 v9 key.length (bvs key) := by simpa using hown9
          have hb9 : Below w8.heap.size w8 w9 := ((Below.refl _ _).alloc (Nat.le_refl _) _).grown hg9 (by simp) (fun q h => by simp [Value.ownBlock] at h; omega)
          have HO9 := hid hO9; have HB9 := hid hb9
          have HAL9 : Hid (Lie w9 w.heap.size A1 (bvs one)) := hid (HS1.out.lie.below (HB8.out.trans (hb9.mono hz8)))
          clear hown9 hg9 hO9 hb9 HAL8
          have hz9 := HB9.out.size
          go_wp2_with (at_builtin; refine wpList_append_if rfl _ _ 28 rfl w8.heap.size 5 (.int .u8 0) 1 Try.underlying28 infoU8 rfl rfl HO9.out (bvs_length one) rfl HAL9.out (bvs_one one) (by have := HAK.out; have := HAO.out; unfold maxLen; omega) (by have := HAK.out; have := HAO.out; omega) hz9 ?_)
          intro v10 w10 hown10 hg10 _
          have hO10 : w10.ownsRow w8.heap.size 5 1 v10 (key.length + one.length) (bvs (key ++ one)) := by rw [bvs_append]; exact hown10
          have hb10 : Below w8.heap.size w8 w10 := HB9.out.grown hg10 hz9 (fun q h => own_lt HO9.out q h)
          obtain ⟨A10, c10, rfl, hS10⟩ := own_sl hO10
          have KS3 : Hid (Calls Try.prog 15 #[.slice A10 (key.length + one.length) c10, .slice A4 (key.length + one.length) c4] w10 fun e w' => e = .returned (.bool true) ∧ ∃ n, w' = w10.drewN n) := hid (by
            have h := Same_any A10 (key ++ one) c10 A4 (key ++ one) c4 w10 _ _ hS10.lie (HL8.out.below hb10) (by rw [List.length_append]; have := HAK.out; have := HAO.out; omega)
            rw [beq_self_eq_true, List.length_append] at h
            exact h)
          have HB10 : Hid (Below w.heap.size w w10) := hid (HB8.out.trans (hb10.mono hz8))
          clear hown10 hg10 hO10 hb10 hS10 HO9 HB9 HAL9
          go_wp2_with fail
          refine KS3.out.mono ?_
          rintro e w11 ⟨rfl, n11, rfl⟩
          go_wp2
          go_ret
          exact ⟨by simp, below_drewK HB10.out _⟩
        · have hi : ¬ (two.length : Int) = 16 := by omega
          have hib : ((two.length : Int) != 16) = true := by rw [bne_iff_ne]; exact hi
          have hj : ((key.length : Int) != 16) = false := by rw [hn]; rfl
          have hj1 : ((one.length : Int) != 16) = false := by rw [hn1]; rfl
          go_wp2
          go_ret
          exact ⟨rfl, HW2.out⟩
      · have hi : ¬ (one.length : Int) = 16 := by omega
        have hib : ((one.length : Int) != 16) = true := by rw [bne_iff_ne]; exact hi
        have hj : ((key.length : Int) != 16) = false := by rw [hn]; rfl
        go_wp2
        go_ret
        exact ⟨rfl, HW2.out⟩
    · have hi : ¬ (key.length : Int) = 16 := by omega
      have hib : ((key.length : Int) != 16) = true := by rw [bne_iff_ne]; exact hi
      go_wp2
      go_ret
      exact ⟨rfl, HW2.out⟩
  · have hz0 : ((a : Int) != 0) = true := by rw [bne_iff_ne]; omega
    have hz1 : ((b : Int) != 0) = true := by rw [bne_iff_ne]; omega
    have hz2 : ((tab : Int) == 0) = false := by have := hnz h0 h1; rw [beq_eq_false_iff_ne]; omega
    have hz0' : ¬ (a : Int) = 0 := by omega
    have hz1' : ¬ (b : Int) = 0 := by omega
    have hz2' : ¬ (tab : Int) = 0 := by have := hnz h0 h1; omega
    go_wp2_with fail
    refine (K1.out _).mono ?_
    rintro e w' ⟨rfl, rfl⟩
    go_wp2_with fail
    refine (K9.out _).mono ?_
    rintro e w' ⟨rfl, k9, rfl⟩
    go_wp2_with fail
    refine (K10.out _).mono ?_
    rintro e w' ⟨rfl, k10, rfl⟩
    have HW2 : Hid (Below w.heap.size w (w1.drewN (k9 + k10))) := hid (by have h := HB1.out; exact ⟨h.os, h.tape, h.output, h.size, h.block⟩)
    simp only [World.drewN_drewN] at *
    clear HB1
    generalize w1.drewN (k9 + k10) = w2 at *
    by_cases hn : key.length = 16
    · by_cases hn1 : one.length = 16
      · by_cases hn2 : two.length = 16
        · have hj : ((key.length : Int) != 16) = false := by rw [hn]; rfl
          have hj1 : ((one.length : Int) != 16) = false := by rw [hn1]; rfl
          have hj2 : ((two.length : Int) != 16) = false := by rw [hn2]; rfl
          have hz2s := HW2.out.size
          have HAL1 : Hid (Lie (w2.alloc (.cells #[] 5)) w.heap.size A (bvs key)) := hid ((HS.out.lie.below HW2.out).alloc hz2s _)
          have HAK : Hid (key.length ≤ 16) := hid (by omega)
          have HAO : Hid (one.length ≤ 16) := hid (by omega)
          have HN := hid hn; have HN1 := hid hn1; have HN2 := hid hn2
          clear hn hn1 hn2
          go_wp2_with (at_builtin; refine wpList_append_lie rfl _ _ 28 rfl w2.heap.size 5 (.int .u8 0) 1 Try.underlying28 infoU8 rfl rfl (row_none _ _ (k := w2.heap.size) rfl (Nat.le_refl _)) (bvs_length key) rfl HAL1.out (bvs_one key) ?d1 ?d2 ?d3 ?_)
          case d1 => have := HAK.out; unfold maxLen; omega
          case d2 => have := HAK.out; omega
          case d3 => simp
          intro v3 w3 hown3 hg3 _
          have hO3 : w3.ownsRow w2.heap.size 5 1 v3 key.length (bvs key) := by simpa using hown3
          have hB3 : Below w.heap.size w w3 := (HW2.out.alloc hz2s _).grown hg3 (by simp; omega) (fun q h => by simp [Value.ownBlock] at h; omega)
          have hz3 : w2.heap.size ≤ w3.heap.size := Nat.le_trans (by simp) hg3.size
          have HO3 := hid hO3; have HB3 := hid hB3
          have HAL3 : Hid (Lie w3 w.heap.size A1 (bvs one)) := hid (HS1.out.lie.below hB3)
          clear hown3 hg3 hO3 hB3 HAL1
          go_wp2_with (at_builtin; refine wpList_append_lie rfl (.tmp 99) (.tmp 100) 28 rfl w2.heap.size 5 (.int .u8 0) 1 Try.underlying28 infoU8 rfl rfl HO3.out (bvs_length one) rfl HAL3.out (bvs_one one) ?d1 ?d2 ?d3 ?_)
          case d1 => have := HAK.out; have := HAO.out; unfold maxLen; omega
          case d2 => have := HAK.out; have := HAO.out; omega
          case d3 => exact hz3
          intro v4 w4 hown4 hg4 _
          have hO4 : w4.ownsRow w2.heap.size 5 1 v4 (key.length + one.length) (bvs (key ++ one)) := by rw [bvs_append]; exact hown4
          have hB4 : Below w.heap.size w w4 := HB3.out.grown hg4 HB3.out.size (fun q h => by have := own_lt HO3.out q h; omega)
          obtain ⟨A4, c4, rfl, hS4⟩ := own_sl hO4
          have HL4 : Hid (Lie w4 w4.heap.size A4 (bvs (key ++ one))) := hid hS4.lie
          have HB4 := hid hB4
          clear hown4 hg4 hO4 hB4 hS4 HO3 HB3 HAL3
          have KB1 : Hid (Calls Try.prog 11 #[.slice A key.length c, .slice A1 one.length c1] w4 fun e w' => ∃ v, e = .returned (.tuple #[v, .bool true]) ∧ OwnB w' w4.heap.size v (blkL (sealN (bf key) (bf one))) ∧ Below w4.heap.size w4 w') := hid (by
            have h := Block_any A A1 key one key.length one.length c c1 w4 ((HS.out.below HB4.out).more HB4.out.size) ((HS1.out.below HB4.out).more HB4.out.size) rfl rfl
            exact h.mono fun e w' h => by rw [if_pos ⟨HN.out, HN1.out⟩] at h; exact h)
          go_wp2_with fail
          refine KB1.out.mono ?_
          rintro e w5 ⟨v5, rfl, ho5, hb5⟩
          obtain ⟨A5, c5, rfl, hS5⟩ := own_sl ho5
          rw [blkL_length]
          have HB5 : Hid (Below w.heap.size w w5) := hid (HB4.out.trans (hb5.mono HB4.out.size))
          have HL5 : Hid (Lie w5 w5.heap.size A5 (bvs (blkL (sealN (bf key) (bf one))))) := hid hS5.lie
          have HL4' : Hid (Lie w5 w5.heap.size A4 (bvs (key ++ one))) := hid ((HL4.out.below hb5).more hb5.size)
          clear ho5 hS5 hb5 HL4 HB4 KB1
          have KB2 : Hid (Calls Try.prog 11 #[.slice A key.length c, .slice A2 two.length c2] w5 fun e w' => ∃ v, e = .returned (.tuple #[v, .bool true]) ∧ OwnB w' w5.heap.size v (blkL (sealN (bf key) (bf two))) ∧ Below w5.heap.size w5 w') := hid (by
            have h := Block_any A A2 key two key.length two.length c c2 w5 ((HS.out.below HB5.out).more HB5.out.size) ((HS2.out.below HB5.out).more HB5.out.size) rfl rfl
            exact h.mono fun e w' h => by rw [if_pos ⟨HN.out, HN2.out⟩] at h; exact h)
          go_wp2_with fail
          refine KB2.out.mono ?_
          rintro e w6 ⟨v6, rfl, ho6, hb6⟩
          obtain ⟨A6, c6, rfl, hS6⟩ := own_sl ho6
          rw [blkL_length]
          have HB6 : Hid (Below w.heap.size w w6) := hid (HB5.out.trans (hb6.mono HB5.out.size))
          have HL6 : Hid (Lie w6 w6.heap.size A6 (bvs (blkL (sealN (bf key) (bf two))))) := hid hS6.lie
          have HL4 : Hid (Lie w6 w6.heap.size A4 (bvs (key ++ one))) := hid ((HL4'.out.below hb6).more hb6.size)
          have HL5' : Hid (Lie w6 w6.heap.size A5 (bvs (blkL (sealN (bf key) (bf one))))) := hid ((HL5.out.below hb6).more hb6.size)
          obtain ⟨s, hs⟩ : ∃ s : Bool, s = (one == two) := ⟨_, rfl⟩
          have KS1 : Hid (∀ (A5 A6 : Option Addr) (c5 c6 : Nat) (W : World), Lie W W.heap.size A5 (bvs (blkL (sealN (bf key) (bf one)))) → Lie W W.heap.size A6 (bvs (blkL (sealN (bf key) (bf two)))) → Calls Try.prog 15 #[.slice A5 (16 : Nat) c5, .slice A6 (16 : Nat) c6] W fun e w' => e = .returned (.bool s) ∧ ∃ n, w' = W.drewN n) := hid fun A5 A6 c5 c6 W h5 h6 => by
            have h := Same_any A5 (blkL (sealN (bf key) (bf one))) c5 A6 (blkL (sealN (bf key) (bf two))) c6 W _ _ h5 h6 (by rw [blkL_length]; omega)
            rw [sealed_same key one two HN1.out HN2.out, ← hs, blkL_length, blkL_length] at h
            exact h
          have KS2 : Hid (∀ W : World, Below w.heap.size w W → Calls Try.prog 15 #[.slice A1 one.length c1, .slice A2 two.length c2] W fun e w' => e = .returned (.bool s) ∧ ∃ n, w' = W.drewN n) := hid fun W hb => by
            rw [hs]
            exact Same_any A1 one c1 A2 two c2 W _ _ (HS1.out.lie.below hb) (HS2.out.lie.below hb) (by have := HN1.out; omega)
          clear ho6 hS6 hb6 HL4' HB5 HL5 KB2 hs
          have hss : (s == s) = true := beq_self_eq_true _
          go_wp2_with fail
          refine (KS1.out _ _ _ _ _ HL5'.out HL6.out).mono ?_
          rintro e w7 ⟨rfl, n7, rfl⟩
          go_wp2_with fail
          refine (KS2.out _ (below_drewK HB6.out n7)).mono ?_
          rintro e w8 ⟨rfl, n8, rfl⟩
          simp only [World.drewN_drewN] at *
          have HB8 : Hid (Below w.heap.size w (w6.drewN (n7 + n8))) := hid (below_drewK HB6.out _)
          have HL8 : Hid (Lie (w6.drewN (n7 + n8)) (w6.drewN (n7 + n8)).heap.size A4 (bvs (key ++ one))) := hid HL4.out
          clear HL4 HL5' HL6 HB6 KS1 KS2
          generalize w6.drewN (n7 + n8) = w8 at *
          have hz8 := HB8.out.size
          have HAL8 : Hid (Lie (w8.alloc (.cells #[] 5)) w.heap.size A (bvs key)) := hid ((HS.out.lie.below HB8.out).alloc hz8 _)
          go_wp2_with (at_builtin; refine wpList_append_if rfl _ _ 28 rfl w8.heap.size 5 (.int .u8 0) 1 Try.underlying28 infoU8 rfl rfl (row_none _ _ (k := w8.heap.size) rfl (Nat.le_refl _)) (bvs_length key) rfl HAL8.out (bvs_one key) (by have := HAK.out; unfold maxLen; omega) (by have := HAK.out; omega) (by simp) ?_)
          intro v9 w9 hown9 hg9 _
          have hO9 : w9.ownsRow w8.heap.size 5 1 v9 key.length (bvs key) := by simpa using hown9
          have hb9 : Below w8.heap.size w8 w9 := ((Below.refl _ _).alloc (Nat.le_refl _) _).grown hg9 (by simp) (fun q h => by simp [Value.ownBlock] at h; omega)
          have HO9 := hid hO9; have HB9 := hid hb9
          have HAL9 : Hid (Lie w9 w.heap.size A1 (bvs one)) := hid (HS1.out.lie.below (HB8.out.trans (hb9.mono hz8)))
          clear hown9 hg9 hO9 hb9 HAL8
          have hz9 := HB9.out.size
          go_wp2_with (at_builtin; refine wpList_append_if rfl _ _ 28 rfl w8.heap.size 5 (.int .u8 0) 1 Try.underlying28 infoU8 rfl rfl HO9.out (bvs_length one) rfl HAL9.out (bvs_one one) (by have := HAK.out; have := HAO.out; unfold maxLen; omega) (by have := HAK.out; have := HAO.out; omega) hz9 ?_)
          intro v10 w10 hown10 hg10 _
          have hO10 : w10.ownsRow w8.heap.size 5 1 v10 (key.length + one.length) (bvs (key ++ one)) := by rw [bvs_append]; exact hown10
          have hb10 : Below w8.heap.size w8 w10 := HB9.out.grown hg10 hz9 (fun q h => own_lt HO9.out q h)
          obtain ⟨A10, c10, rfl, hS10⟩ := own_sl hO10
          have KS3 : Hid (Calls Try.prog 15 #[.slice A10 (key.length + one.length) c10, .slice A4 (key.length + one.length) c4] w10 fun e w' => e = .returned (.bool true) ∧ ∃ n, w' = w10.drewN n) := hid (by
            have h := Same_any A10 (key ++ one) c10 A4 (key ++ one) c4 w10 _ _ hS10.lie (HL8.out.below hb10) (by rw [List.length_append]; have := HAK.out; have := HAO.out; omega)
            rw [beq_self_eq_true, List.length_append] at h
            exact h)
          have HB10 : Hid (Below w.heap.size w w10) := hid (HB8.out.trans (hb10.mono hz8))
          clear hown10 hg10 hO10 hb10 hS10 HO9 HB9 HAL9
          go_wp2_with fail
          refine KS3.out.mono ?_
          rintro e w11 ⟨rfl, n11, rfl⟩
          go_wp2
          go_ret
          exact ⟨by simp, below_drewK HB10.out _⟩
        · have hi : ¬ (two.length : Int) = 16 := by omega
          have hib : ((two.length : Int) != 16) = true := by rw [bne_iff_ne]; exact hi
          have hj : ((key.length : Int) != 16) = false := by rw [hn]; rfl
          have hj1 : ((one.length : Int) != 16) = false := by rw [hn1]; rfl
          go_wp2
          go_ret
          exact ⟨rfl, HW2.out⟩
      · have hi : ¬ (one.length : Int) = 16 := by omega
        have hib : ((one.length : Int) != 16) = true := by rw [bne_iff_ne]; exact hi
        have hj : ((key.length : Int) != 16) = false := by rw [hn]; rfl
        go_wp2
        go_ret
        exact ⟨rfl, HW2.out⟩
    · have hi : ¬ (key.length : Int) = 16 := by omega
      have hib : ((key.length : Int) != 16) = true := by rw [bne_iff_ne]; exact hi
      go_wp2
      go_ret
      exact ⟨rfl, HW2.out⟩
end Go.Proofs.Ytfjcedfjfadfpaa
