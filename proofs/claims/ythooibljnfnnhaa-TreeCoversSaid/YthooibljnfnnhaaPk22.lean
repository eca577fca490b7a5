/-
  Texts of this claim in one file: Law17a, Law17b, Law17c.
-/
import Derived.Test.YthooibljnfnnhaaPk20
import Derived.Test.YthooibljnfnnhaaPk21
import Derived.Test.YthooibljnfnnhaaPk9
import Derived.Test.YthooibljnfnnhaaPk18
import Derived.Test.YthooibljnfnnhaaPk10
section
namespace Go.Proofs.Ythooibljnfnnhaa
open Go Go.RowKit
set_option linter.unusedVariables false
set_option linter.unusedSimpArgs false
theorem infoU8t : (Try.prog.info? 5).map (fun i => (i.zero, i.size, i.bytes)) = some (some (.int .u8 0), 1, 1) := by kernel_rfl
def z17 (n : Nat) : Array Value := madeCells #[.int .u8 0] n
theorem mkB17 (n : Nat) (hn : n ≤ 1000) (W : World) : (Instr.makeSlice 25 (.int .i64 (n : Int)) (.int .i64 (n : Int))).run Try.prog W = .ok (.slice (some ⟨W.heap.size, 0, none⟩) n n) (W.alloc (.cells (z17 n) 5)) := by
  obtain ⟨i, hi, hz, hsize, hby⟩ := info_parts infoU8t
  have h := run_make (P := Try.prog) W 25 5 i _ Try.underlying25 hi hz .i64 .i64 (n : Int) (n : Int) (by omega) (by omega) (by rw [hby]; omega) (by omega)
  rw [hsize, Int.toNat_natCast, show (Value.int .u8 0).cells = #[Value.int .u8 0] from rfl, Nat.mul_one] at h
  exact h
def zs (n : Nat) : List UInt8 := List.replicate n 0
theorem zs_lie {W : World} {p n : Nat} (h : W.heap[p]? = some (.cells (z17 n) 5 (0, 0))) : Lie W W.heap.size (some ⟨p, 0, none⟩) (bvs (zs n)) := fun _ =>
  ⟨p, 0, rfl, block_lt h, fun j u hu => by
    have hj : j < n := by have := (List.getElem?_eq_some_iff.1 hu).1; rw [bvs_length] at this; unfold zs at this; rw [List.length_replicate] at this; exact this
    rw [Nat.zero_add]
    refine cell_of h j u ?_
    rw [← hu]
    unfold z17 madeCells bvs zs
    rw [Array.getElem?_map, Array.getElem?_range, if_pos hj, List.getElem?_map, List.getElem?_replicate, if_pos hj]
    simp [Nat.mod_one]⟩
def oneL : Lf := ⟨zs 32, zs 32, [1], 1, [], zs 64⟩
def oneN : Nd := ⟨1, oneL, pr0⟩
theorem one_out (w W : World) (p1 p2 p3 p4 p5 : Nat) (h1 : W.heap[p1]? = some (.cells (z17 32) 5 (0, 0))) (h2 : W.heap[p2]? = some (.cells (z17 32) 5 (0, 0))) (h3 : W.heap[p3]? = some (.cells #[.int .u8 1] 5 (0, 0))) (h4 : W.heap[p4]? = some (.cells (z17 64) 5 (0, 0)))
    (h5 : W.heap[p5]? = some (.cells #[.int .u8 1, .slice (some ⟨p1, 0, none⟩) 32 32, .slice (some ⟨p2, 0, none⟩) 32 32, .slice (some ⟨p3, 0, none⟩) 1 1, .int .u8 1, .slice none 0 0, .slice (some ⟨p4, 0, none⟩) 64 64, .slice none 0 0, .slice none 0 0, .slice none 0 0] NdT (0, 0))) : TrA w [oneN] (some ⟨p5, 0, none⟩) 1 W := by
  refine ⟨[⟨⟨some ⟨p1, 0, none⟩, some ⟨p2, 0, none⟩, some ⟨p3, 0, none⟩, none, some ⟨p4, 0, none⟩, 32, 32, 1, 0, 64⟩, pa0⟩], ⟨rfl, fun _ => ⟨p5, 0, rfl, block_lt h5, fun j u hu => ?_⟩, fun j n a hn ha => ?_⟩, ⟨Nat.le_refl _, by decide⟩, fun j n a hn ha => ?_⟩
  · rw [Nat.zero_add]
    refine cell_of h5 j u ?_
    rw [← hu]
    have hj : j < 10 := (List.getElem?_eq_some_iff.1 hu).1
    rcases j with _ | _ | _ | _ | _ | _ | _ | _ | _ | _ | j
    all_goals first | rfl | omega
  · rcases j with _ | j
    · cases hn; cases ha
      refine ⟨⟨zs_lie h1, zs_lie h2, fun _ => ⟨p3, 0, rfl, block_lt h3, fun j u hu => ?_⟩, Lie.nil, zs_lie h4⟩, Lie.nil, Lie.nil, Lie.nil⟩
      rw [Nat.zero_add]
      refine cell_of h3 j u ?_
      rw [← hu]
      rcases j with _ | j
      · rfl
      · rfl
    · cases hn
  · rcases j with _ | j
    · cases hn; cases ha
      exact ⟨Nat.zero_le _, (show (0 : Nat) ≤ 9223372036854775807 by decide)⟩
    · cases hn
theorem wpOp_run17 {P : Program} {ops : Array Oper} {Q : Exit → Act → World → Prop} {i : Nat} {o : Oper} {K : Act → World → Prop} {a : Act} {w w' : World} {v : Value} (hi : ops[i]? = some o) (hg : o.guard = none) (hz : (execOp a.eval o).run P w = .ok (.value v) w') (h : K (a.put o.dst v) w') : wpOp P ops Q i K a w := by
  unfold wpOp
  simp only [hi]
  rw [if_pos (by simp [Region.wanted, hg])]
  unfold Oper.wp
  rw [hz]
  exact .inl h
def oV (i p : Nat) : Value := .slice (some ⟨p, 0, none⟩) (match i with | 0 => 32 | 1 => 32 | 2 => 1 | _ => 64) (match i with | 0 => 32 | 1 => 32 | 2 => 1 | _ => 64)
def oO (i : Nat) : Obj := match i with | 0 => .cells (z17 32) 5 | 1 => .cells (z17 32) 5 | 2 => .cells #[.int .u8 1] 5 | _ => .cells (z17 64) 5
def oF (f : Option Nat) (n : Nat) : Value := match f with | none => undef | some p => .slice (some ⟨p, 0, none⟩) n n
def oFr (f0 f1 f2 f3 : Option Nat) : Act := { tmps := #[.slice none 0 0, oF f0 32, oF f1 32, oF f2 1, oF f3 64, undef, undef, undef], defers := [] }
set_option maxRecDepth 100000 in
set_option maxHeartbeats 8000000 in
theorem one_e (w : World) : Calls Try.prog 30 #[] w fun e w' => ∃ A, e = .returned (.slice A 1 1) ∧ TrA w [oneN] A 1 w' ∧ Below w.heap.size w w' := by
  have h32 : ∀ W : World, (Instr.makeSlice 25 (.int .i64 32) (.int .i64 32)).run Try.prog W = .ok (.slice (some ⟨W.heap.size, 0, none⟩) 32 32) (W.alloc (.cells (z17 32) 5)) := mkB17 32 (by decide)
  have h64 : ∀ W : World, (Instr.makeSlice 25 (.int .i64 64) (.int .i64 64)).run Try.prog W = .ok (.slice (some ⟨W.heap.size, 0, none⟩) 64 64) (W.alloc (.cells (z17 64) 5)) := mkB17 64 (by decide)
  go_enter Try.func30, Try.ntmps30
  go_upto_region 1 with fail
  refine wp_region_gr 4 (by kernel_rfl) (by decide) fun w1 hb1 => ?_
  refine wpGr_mk4 oO oV (fun i => some (i + 1)) (fun b0 b1 b2 b3 => #[b0, b1, b2, b3, false, false, false, false]) oFr w1 (by decide) ?mk ?rd ?_ ?_ ?_ ?_ ?_ ?_ ?_ ?_ ?fin 4 none none none none w1 rfl (Below.refl _ _) (fun p h => by cases h) (fun p h => by cases h) (fun p h => by cases h) (fun p h => by cases h)
  case rd => decide +kernel
  case mk =>
    intro i a W K hi hK
    rcases i with _ | _ | _ | _ | i
    · exact wpOp_run17 (v := .slice (some ⟨W.heap.size, 0, none⟩) 32 32) (w' := W.alloc (.cells (z17 32) 5)) rfl rfl (by have h := h32 W; (go_simp; try rfl)) hK
    · exact wpOp_run17 (v := .slice (some ⟨W.heap.size, 0, none⟩) 32 32) (w' := W.alloc (.cells (z17 32) 5)) rfl rfl (by have h := h32 W; (go_simp; try rfl)) hK
    · exact wpOp_sliceTo1 rfl rfl 25 5 1 #[(0, .const (.int .u8 1))] rfl Try.underlying25 #[.int .u8 1] (by kernel_rfl) hK
    · exact wpOp_run17 (v := .slice (some ⟨W.heap.size, 0, none⟩) 64 64) (w' := W.alloc (.cells (z17 64) 5)) rfl rfl (by have h := h64 W; (go_simp; try rfl)) hK
    · omega
  case fin =>
    intro p0 p1 p2 p3 W hb h0 h1 h2 h3
    have HB := hid (hb1.trans (hb.mono hb1.size))
    have H0 := hid h0; have H1 := hid h1; have H2 := hid h2; have H3 := hid h3
    clear hb hb1 h0 h1 h2 h3 h32 h64
    refine ⟨by kernel_rfl, ?_⟩
    simp only [List.drop_succ_cons, List.drop_zero, oFr, oF]
    go_wp2
    go_ret
    refine ⟨_, rfl, one_out w _ p0 p1 p2 p3 W.heap.size ?_ ?_ ?_ ?_ (heap_alloc_new W _), HB.out.alloc HB.out.size _⟩
    · exact (Below.heap_alloc _ _ _ (block_lt H0.out)).trans H0.out
    · exact (Below.heap_alloc _ _ _ (block_lt H1.out)).trans H1.out
    · exact (Below.heap_alloc _ _ _ (block_lt H2.out)).trans H2.out
    · exact (Below.heap_alloc _ _ _ (block_lt H3.out)).trans H3.out
  all_goals (intros; rfl)
end Go.Proofs.Ythooibljnfnnhaa
end
section
namespace Go.Proofs.Ythooibljnfnnhaa
open Go Go.RowKit
set_option linter.unusedVariables false
set_option linter.unusedSimpArgs false
theorem one_lf : leafB oneL = true := by decide
theorem one_rt : Rt [oneN] 0 := by
  have h0 : ∀ x, x < [oneN].length → x = 0 := fun x hx => by simpa using hx
  refine ⟨⟨rfl, by decide⟩, fun x hx => ?_, fun x hx he => ?_, fun x hx ho => ?_, ⟨0, by decide, rfl, .inl rfl⟩, fun x hx l hl => ?_⟩
  · rw [h0 x hx]; exact (show rightB 1 oneL pr0 = true by decide)
  · rw [h0 x hx]; exact (show (1 : Nat) ≠ 2 by decide)
  · have := h0 x hx; omega
  · rw [h0 x hx] at hl; cases hl
theorem one_m : TrM [oneN] := ⟨by decide, fun j n hn => by
  rcases j with _ | j
  · cases hn
    exact ⟨by show LfM oneL; unfold LfM; decide, by show PrM pr0; unfold PrM; decide, (show (1 : Nat) < 256 by decide), fun v hv => by cases hv⟩
  · cases hn⟩
theorem one_200 : Lf200 oneL := by unfold Lf200; decide
theorem one_mem : memR [oneN] = [0] := by unfold memR; rw [if_pos (rgt_yes one_rt)]; decide
theorem one_fil : filR [oneN] 0 = [] := by
  have h := filR_yes (i := 0) one_rt (by decide)
  exact h
theorem one_kT : kT [oneN] = 0 := kT_is one_rt.size
theorem one_I : addI [oneN] 0 = 1 := by decide
theorem one_G : addG [oneN] oneL = true := by unfold addG; rw [rgt_yes one_rt, one_lf, one_kT, one_I]; decide
theorem one_addE : addE [oneN] oneL = 0 := by unfold addE; rw [if_pos (rgt_yes one_rt), if_pos one_lf, one_kT, one_I]; decide
theorem one_addP : addP [oneN] oneL = 1 := by unfold addP; rw [if_pos one_G, one_kT, one_I]
theorem one_addR : addR [oneN] oneL = addU [oneN] 0 oneL := by unfold addR; rw [if_pos one_G, one_kT]
theorem one_len : (addU [oneN] 0 oneL).length = 3 := by unfold addU; rw [addT_length]; decide
theorem one_leaf2 : (nAt (addU [oneN] 0 oneL) 2).k = 1 := by
  have h := (addU_leaf (l := oneL) one_rt (by rw [one_I]; decide)).1
  rw [one_I] at h
  rw [h]
theorem nil_no : rgt [] = false := rgt_no fun K h => by have := h.size.1; have := Nat.two_pow_pos K; simp at *; omega
theorem nil_q (w : World) (B : Nat) : TrQ w B none 0 [] [] := ⟨TrIn.nil _ _ _, ⟨Nat.le_refl _, by decide⟩, fun j n a h => by cases h⟩
theorem nil_m : TrM [] := ⟨by decide, fun j n h => by cases h⟩
abbrev lfLL (x : Lf) (a : LA) : List Value := [.slice a.a0 x.box.length a.c0, .slice a.a1 x.sign.length a.c1, .slice a.a2 x.ident.length a.c2, .int .u8 (x.src : Int), .slice a.a3 x.par.length a.c3, .slice a.a4 x.sig.length a.c4]
theorem lf_ll {w : World} {b o : Nat} {n : Nd} {a : NA} (h : w.rangeAt b o (ndL n a)) : w.rangeAt b (o + 1) (lfLL n.x a.l) := lf_range h
def Alive17 : Prop := ∀ W : World, Calls Try.prog 8 #[] W (RetB W true)
set_option maxRecDepth 100000 in
set_option maxHeartbeats 8000000 in
theorem alive17 : Alive17 := fun w => by
  have HOne := hid (one_e w)
  go_enter Try.func8, Try.ntmps8
  go_wp2_with fail
  refine HOne.out.mono ?_
  rintro e w1 ⟨A, rfl, ⟨ad, hq⟩, hb⟩
  have HB1 := hid hb; have HQ := hid hq
  obtain ⟨b, o, n, a, rfl, hbl, hn, ha, -, hni, hr⟩ := hq.tr.at2 (j := 0) (by decide)
  rw [Nat.zero_mul, Nat.add_zero] at hr
  have hn1 : n = oneN := (Option.some.inj hn).symm
  subst hn1
  have HR : Hid (w1.rangeAt b (o + 1) (lfLL oneL a.l)) := hid (lf_ll hr)
  have HAd := hid (tree_add (some ⟨b, o, none⟩) [oneN] ad 1 oneL a.l w1 hq one_m hni.1 one_200)
  rw [one_addE, one_addP, one_addR, one_len, show [oneN].length = 1 from rfl] at HAd
  clear hb hq hr hni ha hn hbl HOne
  go_wp2_with (with_reducible refine wpList_load_mid rfl LfT (.tmp 10) rfl b (o + 1) rfl (lfLL oneL a.l) _ HR.out Try.underlying27 rfl infoLf ?_)
  refine HAd.out.mono ?_
  rintro e w2 ⟨A2, c2, rfl, ⟨ad2, hq2⟩, hb⟩
  have HB2 := hid (HB1.out.trans (hb.mono HB1.out.size))
  have HQ2 := hid (HQ.out.up hb)
  have HU2 := hid hq2
  have HMe := hid (tree_members (some ⟨b, o, none⟩) [oneN] ad 1 w2 HQ2.out one_m)
  rw [one_mem] at HMe
  clear hb hq2 HAd HR HB1 HQ
  go_wp2_with fail
  refine HMe.out.mono ?_
  rintro e w3 ⟨v, rfl, ho, hb⟩
  have HB3 := hid (HB2.out.trans (hb.mono HB2.out.size))
  have HQ3 := hid (HQ2.out.up hb); have HU3 := hid (HU2.out.up hb)
  obtain ⟨MA, mc, rfl, hs⟩ := own_sl ho
  have HSm : Hid (Calls Try.prog 15 #[.slice MA 1 mc, .slice (some ⟨w3.heap.size, 0, none⟩) 1 1] (w3.alloc (.cells #[.int .i64 0] 3)) (RetB (w3.alloc (.cells #[.int .i64 0] 3)) true)) := hid (by
    have h := Same14_any MA [0] mc (some ⟨w3.heap.size, 0, none⟩) [0] 1 (w3.alloc (.cells #[.int .i64 0] 3)) w3.heap.size (w3.heap.size + 1) (hs.lie.alloc (Nat.le_refl _) _) (Lie.new1 w3 (.int .i64 0) 3) (by decide)
    refine h.mono fun e w' h' => ?_
    first | exact h' | exact ⟨h'.1, by rw [h'.2]; exact Below.refl _ _⟩ | (obtain ⟨h1, q, h2⟩ := h'; exact ⟨h1, by rw [h2]; exact below_dn _ _ _⟩))
  have HA3 : Hid (Below w3.heap.size w3 (w3.alloc (.cells #[.int .i64 0] 3))) := hid ((Below.refl _ _).alloc (Nat.le_refl _) _)
  clear ho hb hs HMe HB2 HQ2 HU2
  go_wp2_with fail
  refine HSm.out.mono ?_
  rintro e w4 ⟨rfl, hb⟩
  have hb34 := HA3.out.trans (hb.mono HA3.out.size)
  have HB4 := hid (HB3.out.trans (hb34.mono HB3.out.size))
  have HQ4 := hid (HQ3.out.up hb34); have HU4 := hid (HU3.out.up hb34)
  have HFi := hid (tree_filtered (some ⟨b, o, none⟩) [oneN] ad 1 0 w4 HQ4.out one_m)
  rw [one_fil] at HFi
  clear hb hb34 HSm HA3 HB3 HQ3 HU3
  go_wp2_with fail
  refine HFi.out.mono ?_
  rintro e w5 ⟨v, rfl, ho, hb⟩
  have HB5 := hid (HB4.out.trans (hb.mono HB4.out.size))
  have HU5 := hid (HU4.out.up hb)
  obtain ⟨FA, fc, rfl, -⟩ := own_sl ho
  have hl3 : 2 < (addU [oneN] 0 oneL).length := by rw [one_len]; decide
  obtain ⟨b2, o2, n2, a2, rfl, hbl2, -, hnt2, -, hr2⟩ := HU5.out.tr.at_ hl3
  have hkc := kind_at hr2
  have hk1 : n2.k = 1 := by rw [hnt2]; exact one_leaf2
  rw [hk1] at hkc
  have HRn := hid (tree_right none [] [] 0 w5 (nil_q _ _) nil_m)
  rw [nil_no] at HRn
  clear ho hb hl3 hbl2 hnt2 hr2 hk1 HFi HB4 HQ4 HU4 HU5
  go_wp2_with fail
  refine HRn.out.mono ?_
  rintro e w6 ⟨rfl, hb⟩
  have HB6 := hid (HB5.out.trans (hb.mono HB5.out.size))
  clear hb HRn HB5 hkc
  go_wp2
  go_ret
  exact ⟨rfl, HB6.out⟩
end Go.Proofs.Ythooibljnfnnhaa
end
section
namespace Go.Proofs.Ythooibljnfnnhaa
open Go Go.RowKit
set_option linter.unusedVariables false
set_option linter.unusedSimpArgs false
/-- What any argument's nodes bear. -/
def Rng (t : List Nd) : Prop := ∀ (j : Nat) (n : Nd), t[j]? = some n → n.k < 256 ∧ n.x.src < 256 ∧ Late64 n.u
theorem small_m {t : List Nd} (h : smallT t = true) (hr : Rng t) : TrM t := by
  obtain ⟨h1, h2⟩ := smallT_iff.1 h
  refine ⟨by omega, fun j n hn => ?_⟩
  obtain ⟨hj, he⟩ := List.getElem?_eq_some_iff.1 hn
  obtain ⟨r1, r2, r3⟩ := hr j n hn
  have h3 := h2 j hj
  rw [he] at h3
  obtain ⟨s1, s2, -, -⟩ := small_le h3 r2
  exact ⟨lf200_m s1, pr200_m s2, r1, r3⟩
theorem one_take {t : List Nd} {i : Nat} {r : List Nat} {k x : Nat} (h : r[k]? = some x) : ones t i (r.take (k + 1)) = ones t i (r.take k) + one t i x := by
  obtain ⟨hk, he⟩ := List.getElem?_eq_some_iff.1 h
  rw [List.take_succ_eq_append_getElem hk, ones_append, he]
  congr 1
  unfold ones
  simp
theorem one_bound {t : List Nd} {K i x : Nat} (h : Rt t K) : -65536 ≤ one t i x ∧ one t i x ≤ 1 := by
  unfold one
  have hl := late_len (x := x) h
  have hf := List.length_filter_le (fun v => decide (v = (i : Int))) (nAt t x).u.late
  split
  · omega
  · split <;> omega
theorem ones_bound {t : List Nd} {K i : Nat} (h : Rt t K) (r : List Nat) (k : Nat) (hk : k ≤ r.length) : -(65536 * (k : Int)) ≤ ones t i (r.take k) ∧ ones t i (r.take k) ≤ (k : Int) := by
  induction k with
  | zero =>
    have e : ones t i (r.take 0) = 0 := by rw [List.take_zero]; rfl
    rw [e]; omega
  | succ k ih =>
    have h1 := one_take (t := t) (i := i) (List.getElem?_eq_getElem (show k < r.length by omega))
    obtain ⟨b1, b2⟩ := one_bound (i := i) (x := r[k]) h
    obtain ⟨c1, c2⟩ := ih (by omega)
    rw [h1]
    omega
theorem wrap_1e {z : Int} (h1 : -2000000000000000000 ≤ z) (h2 : z ≤ 2000000000000000000) : wrap64 z = z := by unfold wrap64; omega
theorem wb1 {k : Nat} {z : Int} (hk : k ≤ 4295032832) (h1 : -(65536 * (k : Int)) ≤ z) (h2 : z ≤ (k : Int)) : -999999999999999999 ≤ z ∧ z ≤ 999999999999999999 := by omega
set_option maxRecDepth 100000 in
set_option maxHeartbeats 16000000 in
theorem treeCovers_any (A : Option Addr) (t : List Nd) (ad : List NA) (c : Nat) (z : Int) (w : World) (hA : TrQ w w.heap.size A c t ad) (hr : Rng t) : Calls Try.prog 6 #[.slice A t.length c, .int .i64 z] w (RetB w true) := by
  have HAl := hid (alive17 w)
  have HSm : Hid (∀ W, Below w.heap.size w W → Calls Try.prog 9 #[.slice A t.length c] W (RetB W (smallT t))) := hid fun W hb => Small17_any A t ad c W (hA.tr.up hb)
  by_cases hs : smallT t = true
  · rw [hs] at HSm
    have hm := small_m hs hr
    have HRt : Hid (∀ W, Below w.heap.size w W → Calls Try.prog 12 #[.slice A t.length c] W (RetB W (rgt t))) := hid fun W hb => tree_right A t ad c W (hA.up hb) hm
    by_cases hrg : rgt t = true
    · rw [hrg] at HRt
      by_cases h0 : 0 ≤ z
      · by_cases hlt : z < (t.length : Int)
        · obtain ⟨K, hK⟩ := rgt_rt hrg
          obtain ⟨y, hy⟩ : ∃ y : Nat, z = (y : Int) := ⟨z.toNat, by omega⟩
          subst hy
          have hyl : y < t.length := by omega
          obtain ⟨i1, i2⟩ := (in_sz hK.size).1 hyl
          have HRe : Hid (∀ W, Below w.heap.size w W → Calls Try.prog 27 #[.slice A t.length c, .int .i64 (y : Int)] W (OwnLn W (resN t (lv y) (qt y)))) := hid fun W hb => by
            have h := tree_resolve A t ad c (y : Int) W (hA.up hb) hm
            rw [rslR_yes hrg hyl] at h
            exact h
          have HMe : Hid (∀ W, Below w.heap.size w W → Calls Try.prog 13 #[.slice A t.length c] W (OwnLn W (memT t (2 ^ K)))) := hid fun W hb => by
            have h := tree_members A t ad c W (hA.up hb) hm
            unfold memR at h
            rw [if_pos hrg, rt_half hK.size] at h
            exact h
          have htl := hK.size.1
          have hp := pow_le16 hK.size.2
          have hy16 : y ≤ 131070 := by omega
          have HIN : Hid (∀ x ∈ resN t (lv y) (qt y), x < t.length ∧ x ≤ 131070 ∧ (nAt t x).k ≠ 0 ∧ underZ (x : Int) (y : Int) = true) := hid fun x hx => by
            obtain ⟨a, b, d⟩ := res_in hK (lv y) (qt y) i1 i2 x hx
            rw [nd_of] at d
            exact ⟨a, by omega, b, by rw [under_und hy16 (by omega)]; exact decide_eq_true d⟩
          have HON : Hid (∀ p ∈ memT t (2 ^ K), p ≤ 65535 ∧ ones t p (resN t (lv y) (qt y)) = if bel p y then 1 else 0) := hid fun p hp' => by
            obtain ⟨h1, h2⟩ := mem_memT.1 hp'
            have h := res_once hK p h1 (by rw [h2]; decide) (lv y) (qt y) i1 i2
            rw [nd_of] at h
            exact ⟨by omega, h⟩
          have HWB : Hid (∀ p k, k ≤ (resN t (lv y) (qt y)).length → -999999999999999999 ≤ ones t p ((resN t (lv y) (qt y)).take k) ∧ ones t p ((resN t (lv y) (qt y)).take k) ≤ 999999999999999999) := hid fun p k hk => by
            obtain ⟨b1, b2⟩ := ones_bound (i := p) hK _ k hk
            refine wb1 (k := k) ?_ b1 b2
            have h1 := resN_len hK (lv y) (qt y)
            have h2 := pow_le16 (show lv y ≤ 16 by have := hK.size.2; omega)
            have h3 : 2 ^ lv y * 65537 ≤ 65536 * 65537 := Nat.mul_le_mul_right _ h2
            omega
          have HLL : Hid (∀ x, (nAt t x).u.late.length ≤ 65536) := hid fun x => late_len hK
          have HRN : Hid ((resN t (lv y) (qt y)).length ≤ 4295032832) := hid (by
            have h1 := resN_len hK (lv y) (qt y)
            have h2 := pow_le16 (show lv y ≤ 16 by have := hK.size.2; omega)
            have h3 : 2 ^ lv y * 65537 ≤ 65536 * 65537 := Nat.mul_le_mul_right _ h2
            omega)
          have HMN : Hid ((memT t (2 ^ K)).length ≤ 65536) := hid (Nat.le_trans (memT_len _ _) hp)
          have HUn : Hid (∀ (x : Nat) (W : World), x ≤ 131070 → Calls Try.prog 28 #[.int .i64 (x : Int), .int .i64 (y : Int)] W (RetB W (underZ (x : Int) (y : Int)))) := hid fun x W _ => UnderR (x : Int) (y : Int) W
          have HBE : Hid (∀ p : Nat, p ≤ 65535 → underZ ((2 * p : Nat) : Int) (y : Int) = decide (bel p y)) := hid fun p hp => under_bel hy16 hp
          obtain ⟨R, hR⟩ : ∃ R, R = resN t (lv y) (qt y) := ⟨_, rfl⟩
          obtain ⟨M, hM⟩ : ∃ M, M = memT t (2 ^ K) := ⟨_, rfl⟩
          rw [← hR] at HRe HIN HON HWB HRN
          rw [← hM] at HMe HON HMN
          have hz0 : decide ((y : Int) < 0) = false := decide_eq_false (by omega)
          have hzl : ¬ (t.length : Int) ≤ (y : Int) := by omega
          have hzl' : decide ((t.length : Int) ≤ (y : Int)) = false := decide_eq_false hzl
          have HA := hid hA
          have HTL : Hid (t.length ≤ 131071) := hid (by omega)
          clear hs hm hrg h0 hlt hK hyl i1 i2 htl hp hR hM hA hr hy16
          go_enter Try.func6, Try.ntmps6
          go_wp2_with fail
          refine HAl.out.mono ?_
          rintro e w1 ⟨rfl, hb⟩
          have HB1 := hid hb
          clear hb HAl
          go_wp2_with fail
          refine (HSm.out _ HB1.out).mono ?_
          rintro e w2 ⟨rfl, hb⟩
          have HB2 := hid (HB1.out.trans (hb.mono HB1.out.size))
          clear hb HSm HB1
          go_wp2_with fail
          refine (HRt.out _ HB2.out).mono ?_
          rintro e w3 ⟨rfl, hb⟩
          have HB3 := hid (HB2.out.trans (hb.mono HB2.out.size))
          clear hb HRt HB2
          go_wp2_with fail
          refine (HRe.out _ HB3.out).mono ?_
          rintro e w4 ⟨v, rfl, ho, hb⟩
          have HB4 := hid (HB3.out.trans (hb.mono HB3.out.size))
          obtain ⟨RA, rc, rfl, hsl⟩ := own_sl ho
          have HRL := hid hsl.lie
          clear hb ho hsl HRe HB3 hz0 hzl hzl'
          go_wp2_with fail
          refine (HMe.out _ HB4.out).mono ?_
          rintro e w5 ⟨v, rfl, ho, hb⟩
          have HB5 := hid (HB4.out.trans (hb.mono HB4.out.size))
          have HRL5 := hid (lie_on HRL.out hb)
          obtain ⟨MA, mc, rfl, hsl⟩ := own_sl ho
          have HML := hid hsl.lie
          clear hb ho hsl HMe HB4 HRL
          go_wp2
          go_loopg [7] M.length (fun rr iv wr => ∃ i : Nat, i + rr = M.length ∧ iv = .int .i64 (i : Int) ∧ Below w5.heap.size w5 wr)
          case atStart => exact ⟨0, by omega, rfl, Below.refl _ _⟩
          case round =>
            obtain ⟨i, hi, rfl, hb⟩ := hrel
            have HI := hid hi; have HBi := hid hb
            have hwi : wrap64 ((i : Int) + 1) = (i : Int) + 1 := wrap_1e (by omega) (by have := HMN.out; omega)
            clear hi hb
            by_cases hlt : i < M.length
            · obtain ⟨mb, mo, hMA, hmb, -⟩ := HML.out.numI hlt
              subst hMA
              obtain ⟨p, hp⟩ : ∃ p, p = M[i]'hlt := ⟨_, rfl⟩
              have HCM5 : Hid (∀ W, Below w5.heap.size w5 W → W.cell? ⟨mb, mo + i, none⟩ = some (.int .i64 (p : Int))) := hid fun W hb => by
                obtain ⟨b', o', he, -, hc⟩ := (HML.out.below hb).numI hlt
                simp only [Option.some.injEq, Addr.mk.injEq] at he
                obtain ⟨rfl, rfl, -⟩ := he
                rw [hp]; exact hc
              obtain ⟨hp16, hon⟩ := HON.out p (by rw [hp]; exact List.getElem_mem hlt)
              have HP16 := hid hp16; have HONP := hid hon
              have HILT := hid hlt
              have hil : (i : Int) < (M.length : Int) := by omega
              have hi0 : (0 : Int) ≤ (i : Int) := by omega
              clear hp hp16 hon hlt hmb
              go_wp2
              go_loopg [8, 9] R.length (fun rr nv jv wr => ∃ j : Nat, j + rr = R.length ∧ jv = .int .i64 (j : Int) ∧ nv = .int .i64 (ones t p (R.take j)) ∧ Below w5.heap.size w5 wr)
              case atStart => exact ⟨0, by omega, rfl, by rw [List.take_zero]; rfl, HBi.out⟩
              case round =>
                clear HBi
                obtain ⟨j, hj, rfl, rfl, hb⟩ := hrel
                have HJ := hid hj; have HB := hid hb
                have hwj : wrap64 ((j : Int) + 1) = (j : Int) + 1 := wrap_1e (by omega) (by have := HRN.out; omega)
                clear hj hb
                by_cases hjt : j < R.length
                · obtain ⟨rb, ro, hRA, hrb, -⟩ := HRL5.out.numI hjt
                  subst hRA
                  obtain ⟨x, hx⟩ : ∃ x, x = R[j]'hjt := ⟨_, rfl⟩
                  have HCR5 : Hid (∀ W, Below w5.heap.size w5 W → W.cell? ⟨rb, ro + j, none⟩ = some (.int .i64 (x : Int))) := hid fun W hb => by
                    obtain ⟨b', o', he, -, hc⟩ := (HRL5.out.below hb).numI hjt
                    simp only [Option.some.injEq, Addr.mk.injEq] at he
                    obtain ⟨rfl, rfl, -⟩ := he
                    rw [hx]; exact hc
                  obtain ⟨x1, x2, x3, x4⟩ := HIN.out x (by rw [hx]; exact List.getElem_mem hjt)
                  have HST : Hid (ones t p (R.take (j + 1)) = ones t p (R.take j) + one t p x) := hid (one_take (by rw [hx]; exact List.getElem?_eq_getElem hjt))
                  obtain ⟨b1, b2⟩ := HWB.out p j (by omega)
                  obtain ⟨b3, b4⟩ := HWB.out p (j + 1) (by omega)
                  rw [HST.out] at b3 b4
                  obtain ⟨n, hn⟩ : ∃ n, n = ones t p (R.take j) := ⟨_, rfl⟩
                  rw [← hn] at b1 b2 b3 b4 HST ⊢
                  have HJLT := hid hjt
                  have hA2 := HA.out.up (HB5.out.trans (HB.out.mono HB5.out.size))
                  obtain ⟨tb, tof, q, a, rfl, htb, hq, ha, hqt, hqi, hqr⟩ := hA2.tr.at2 x1
                  rw [← hqt] at x3
                  have HLP : Hid (Lie wr wr.heap.size a.p.a2 (izs q.u.late)) := hid hqi.2.2.2
                  have hkc := kind_at hqr
                  have HLC : Hid (∀ W, Below wr.heap.size wr W → W.cell? ⟨tb, tof + x * 10 + 7 + 2, none⟩ = some (.slice a.p.a2 q.u.late.length a.p.c2)) := hid fun W hb => (hb.cell (p := ⟨tb, tof + x * 10 + 7 + 2, none⟩) htb).trans (late_at hqr)
                  have HQL : Hid (q.u.late.length ≤ 65536) := hid (by rw [hqt]; exact HLL.out x)
                  have hk0 : ((q.k : Int) == 0) = false := by rw [beq_eq_false_iff_ne]; omega
                  have HOX : Hid (one t p x = if x = 2 * p then 1 else if bel p x ∧ x ≠ 2 * p then 1 - ((q.u.late.filter (fun v => decide (v = (p : Int)))).length : Int) else 0) := hid (by rw [hqt]; rfl)
                  have hxi : (x : Int) < (t.length : Int) := by omega
                  have hx0 : (0 : Int) ≤ (x : Int) := by omega
                  have hxn : decide ((x : Int) < 0) = false := decide_eq_false (by omega)
                  have hxg : ¬ (t.length : Int) ≤ (x : Int) := by omega
                  have hxg' : decide ((t.length : Int) ≤ (x : Int)) = false := decide_eq_false hxg
                  have hjl : (j : Int) < (R.length : Int) := by omega
                  have hj0 : (0 : Int) ≤ (j : Int) := by omega
                  have HUx := hid (HUn.out x)
                  rw [x4] at HUx
                  have HX16 := hid x2
                  obtain ⟨rn, hrn⟩ : ∃ rn, rn = R.length := ⟨_, rfl⟩
                  obtain ⟨mn, hmn⟩ : ∃ mn, mn = M.length := ⟨_, rfl⟩
                  rw [← hrn] at HJ HJLT hjl ⊢
                  rw [← hmn] at HI HILT hil ⊢
                  have HRNE := hid hrn; have HMNE := hid hmn
                  clear hrn hmn
                  have hcr := HCR5.out wr HB.out
                  have HWN : Hid (-999999999999999999 ≤ n ∧ n ≤ 999999999999999999 ∧ -999999999999999999 ≤ n + one t p x ∧ n + one t p x ≤ 999999999999999999) := hid ⟨b1, b2, b3, b4⟩
                  clear hn hx hjt hA2 x1 x2 x3 x4 hq ha hqt hqi hqr hrb b1 b2 b3 b4
                  go_wp2_with fail
                  refine (HUx.out _ HX16.out).mono ?_
                  rintro e w6 ⟨rfl, hb⟩
                  have HB6 := hid (HB.out.trans (hb.mono HB.out.size))
                  have H66 := hid hb
                  have HWS := hid hb.size
                  have HS5 := hid HB.out.size
                  have HCR : Hid (∀ W, Below w6.heap.size w6 W → W.cell? ⟨rb, ro + j, none⟩ = some (.int .i64 (x : Int))) := hid fun W hbW => HCR5.out W (HB6.out.trans (hbW.mono HB6.out.size))
                  have HCM : Hid (∀ W, Below w6.heap.size w6 W → W.cell? ⟨mb, mo + i, none⟩ = some (.int .i64 (p : Int))) := hid fun W hbW => HCM5.out W (HB6.out.trans (hbW.mono HB6.out.size))
                  have hcr6 := HCR.out w6 (Below.refl _ _)
                  have hcm6 := HCM.out w6 (Below.refl _ _)
                  clear hb hcr hkc HUx HB hxn hxg hxg' hk0
                  have hwp : wrap64 (2 * (p : Int)) = 2 * (p : Int) := wrap_1e (by omega) (by have := HP16.out; omega)
                  by_cases hxp : x = 2 * p
                  · have HO1 : Hid (ones t p (R.take (j + 1)) = n + 1) := hid (by rw [HST.out, HOX.out, if_pos hxp])
                    have hxe : ((x : Int) == 2 * (p : Int)) = true := by rw [beq_iff_eq]; omega
                    have hwn : wrap64 (n + 1) = n + 1 := wrap_1e (by have := HWN.out; omega) (by have := HWN.out; omega)
                    clear hxp
                    go_upto_region 16 with fail
                    go_quiet (fail)
                    have HB7 := hid (HB6.out.trans (below_dn w5.heap.size w6 nq))
                    go_wp2
                    have hj := HJ.out; have hjt := HJLT.out
                    have hrn := HRNE.out; have hmn := HMNE.out
                    subst hrn; subst hmn
                    go_roundg (R.length - (j + 1))
                    case measure => clear hwj hwn hwi; omega
                    case rel => exact ⟨j + 1, by clear hwj hwn hwi; omega, by first | rfl | (rw [hwj]; rfl), by rw [HO1.out, hwn], HB7.out⟩
                  · have hxe : ((x : Int) == 2 * (p : Int)) = false := by rw [beq_eq_false_iff_ne]; omega
                    have HAb : Hid (∀ W, Calls Try.prog 29 #[.int .i64 (x : Int), .int .i64 (p : Int)] W (RetB W (decide (bel p x)))) := hid fun W => by
                      have h := Above17_any x p W HX16.out HP16.out
                      rw [show decide (abv x p) = decide (bel p x) from decide_eq_decide.2 ⟨fun h => h.2, fun h => ⟨hxp, h⟩⟩] at h
                      exact h
                    have HOX2 : Hid (one t p x = if bel p x then 1 - ((q.u.late.filter (fun v => decide (v = (p : Int)))).length : Int) else 0) := hid (by
                      rw [HOX.out, if_neg hxp]
                      by_cases hb : bel p x
                      · rw [if_pos ⟨hb, hxp⟩, if_pos hb]
                      · rw [if_neg (fun h => hb h.1), if_neg hb])
                    obtain ⟨ab, hab⟩ : ∃ b, b = decide (bel p x) := ⟨_, rfl⟩
                    rw [← hab] at HAb
                    have HABE := hid hab
                    clear hxp hab HOX
                    go_upto_region 16 with fail
                    go_quiet (fail)
                    have HB6 := hid (HB6.out.trans (below_dn w5.heap.size w6 nq))
                    have H66 := hid (H66.out.trans (below_dn wr.heap.size w6 nq))
                    obtain ⟨w7, hw7⟩ : ∃ W, W = w6.drewN nq := ⟨_, rfl⟩
                    rw [← hw7] at HB6 H66 ⊢
                    have HWS := hid H66.out.size
                    have HCR : Hid (∀ W, Below w7.heap.size w7 W → W.cell? ⟨rb, ro + j, none⟩ = some (.int .i64 (x : Int))) := hid fun W hbW => HCR5.out W (HB6.out.trans (hbW.mono HB6.out.size))
                    have HCM : Hid (∀ W, Below w7.heap.size w7 W → W.cell? ⟨mb, mo + i, none⟩ = some (.int .i64 (p : Int))) := hid fun W hbW => HCM5.out W (HB6.out.trans (hbW.mono HB6.out.size))
                    have hcr6 := HCR.out w7 (Below.refl _ _)
                    have hcm6 := HCM.out w7 (Below.refl _ _)
                    clear hw7
                    go_upto_region 18 with fail
                    refine wp_region_grA 8 (by kernel_rfl) (by decide) ?_
                    refine wpGrA_take (i := 0) (.slice (some ⟨rb, ro, none⟩) rn rc) rfl (by kernel_rfl) (by kernel_rfl) (fun _ _ _ h => h) (yG_val _ (by rfl) (fun w' _ => by (go_simp; try rfl))) ?_
                    (try simp only [Act.put, List.getElem_toArray, List.getElem_cons_succ, List.getElem_cons_zero, List.setIfInBounds_toArray, List.set_cons_zero, List.set_cons_succ])
                    refine wpGrA_take (i := 1) (.int .i64 (j : Int)) rfl (by kernel_rfl) (by kernel_rfl) (fun _ _ _ h => h) (yG_val _ (by rfl) (fun w' _ => by (go_simp; try rfl))) ?_
                    (try simp only [Act.put, List.getElem_toArray, List.getElem_cons_succ, List.getElem_cons_zero, List.setIfInBounds_toArray, List.set_cons_zero, List.set_cons_succ])
                    refine wpGrA_take (i := 2) (.pointer (some ⟨rb, ro + j, none⟩)) rfl (by kernel_rfl) (by kernel_rfl) (fun _ _ _ h => h) (yG_val _ (by rfl) (fun w' _ => by (go_simp; try rfl))) ?_
                    (try simp only [Act.put, List.getElem_toArray, List.getElem_cons_succ, List.getElem_cons_zero, List.setIfInBounds_toArray, List.set_cons_zero, List.set_cons_succ])
                    refine wpGrA_take (i := 3) (.int .i64 (x : Int)) rfl (by kernel_rfl) (by kernel_rfl) (fun _ _ _ h => h) (yG_val _ (by rfl) (fun w' hb => by have h0 := HCR.out w' hb; (go_simp; try rfl))) ?_
                    (try simp only [Act.put, List.getElem_toArray, List.getElem_cons_succ, List.getElem_cons_zero, List.setIfInBounds_toArray, List.set_cons_zero, List.set_cons_succ])
                    refine wpGrA_take (i := 4) (.slice (some ⟨mb, mo, none⟩) mn mc) rfl (by kernel_rfl) (by kernel_rfl) (fun _ _ _ h => h) (yG_val _ (by rfl) (fun w' _ => by (go_simp; try rfl))) ?_
                    (try simp only [Act.put, List.getElem_toArray, List.getElem_cons_succ, List.getElem_cons_zero, List.setIfInBounds_toArray, List.set_cons_zero, List.set_cons_succ])
                    refine wpGrA_take (i := 5) (.int .i64 (i : Int)) rfl (by kernel_rfl) (by kernel_rfl) (fun _ _ _ h => h) (yG_val _ (by rfl) (fun w' _ => by (go_simp; try rfl))) ?_
                    (try simp only [Act.put, List.getElem_toArray, List.getElem_cons_succ, List.getElem_cons_zero, List.setIfInBounds_toArray, List.set_cons_zero, List.set_cons_succ])
                    refine wpGrA_take (i := 6) (.pointer (some ⟨mb, mo + i, none⟩)) rfl (by kernel_rfl) (by kernel_rfl) (fun _ _ _ h => h) (yG_val _ (by rfl) (fun w' _ => by (go_simp; try rfl))) ?_
                    (try simp only [Act.put, List.getElem_toArray, List.getElem_cons_succ, List.getElem_cons_zero, List.setIfInBounds_toArray, List.set_cons_zero, List.set_cons_succ])
                    refine wpGrA_take (i := 7) (.int .i64 (p : Int)) rfl (by kernel_rfl) (by kernel_rfl) (fun _ _ _ h => h) (yG_val _ (by rfl) (fun w' hb => by have h0 := HCM.out w' hb; (go_simp; try rfl))) ?_
                    (try simp only [Act.put, List.getElem_toArray, List.getElem_cons_succ, List.getElem_cons_zero, List.setIfInBounds_toArray, List.set_cons_zero, List.set_cons_succ])
                    refine wpGrA_end (by kernel_rfl) ?_
                    intro w9 hb5
                    simp only [List.drop_succ_cons, List.drop_zero]
                    have HB7 := hid (HB6.out.trans (hb5.mono HB6.out.size))
                    have H67 := hid (H66.out.trans (hb5.mono HWS.out))
                    clear hb5 HB6 H66 hcr6 hcm6
                    go_wp2_with fail
                    refine (HAb.out _).mono ?_
                    rintro e w8 ⟨rfl, hb⟩
                    have HB8 := hid (HB7.out.trans (hb.mono HB7.out.size))
                    have H68 := hid (H67.out.trans (hb.mono H67.out.size))
                    clear hb HAb HB7 H67
                    cases ab with
                    | false =>
                      have HO1 : Hid (ones t p (R.take (j + 1)) = n) := hid (by rw [HST.out, HOX2.out, if_neg (of_decide_eq_false HABE.out.symm)]; omega)
                      go_wp2
                      have hj := HJ.out; have hjt := HJLT.out
                      have hrn := HRNE.out; have hmn := HMNE.out
                      subst hrn; subst hmn
                      go_roundg (R.length - (j + 1))
                      case measure => clear hwj hwi; omega
                      case rel => exact ⟨j + 1, by clear hwj hwi; omega, by first | rfl | (rw [hwj]; rfl), by rw [HO1.out], HB8.out⟩
                    | true =>
                      have HO1 : Hid (ones t p (R.take (j + 1)) = n + 1 - ((q.u.late.filter (fun v => decide (v = (p : Int)))).length : Int)) := hid (by rw [HST.out, HOX2.out, if_pos (of_decide_eq_true HABE.out.symm)]; omega)
                      have HWN2 : Hid (-999999999999999999 ≤ n + 1 - ((q.u.late.filter (fun v => decide (v = (p : Int)))).length : Int) ∧ n + 1 - ((q.u.late.filter (fun v => decide (v = (p : Int)))).length : Int) ≤ 999999999999999999) := hid (by
                        have := HWN.out
                        rw [HOX2.out, if_pos (of_decide_eq_true HABE.out.symm)] at this
                        omega)
                      obtain ⟨B0, hB0⟩ : ∃ B, B = wr.heap.size := ⟨_, rfl⟩
                      have HLC8 : Hid (∀ W, Below B0 w8 W → W.cell? ⟨tb, tof + x * 10 + 7 + 2, none⟩ = some (.slice a.p.a2 q.u.late.length a.p.c2)) := hid fun W hb => HLC.out W (H68.out.trans (by rw [← hB0]; exact hb))
                      have HLP8 : Hid (Lie w8 B0 a.p.a2 (izs q.u.late)) := hid (by rw [hB0]; exact HLP.out.below H68.out)
                      have HS5 : Hid (w5.heap.size ≤ B0) := hid (by rw [hB0]; exact HS5.out)
                      clear hB0
                      obtain ⟨L, hL⟩ : ∃ L, L = q.u.late := ⟨_, rfl⟩
                      obtain ⟨LA, hLA⟩ : ∃ L, L = a.p.a2 := ⟨_, rfl⟩
                      obtain ⟨LC, hLC⟩ : ∃ L, L = a.p.c2 := ⟨_, rfl⟩
                      rw [← hL] at HLC8 HLP8 HO1 HWN2 HQL
                      rw [← hLA] at HLC8 HLP8
                      rw [← hLC] at HLC8
                      have hlc8 := HLC8.out w8 (Below.refl _ _)
                      have hcr8 := HCR5.out w8 HB8.out
                      have hcm8 := HCM5.out w8 HB8.out
                      clear hL hLA hLC HLC HLP H68 HCR HCM HOX2 HABE HWN
                      go_wp2
                      go_loopg [10, 11] L.length (fun rr cv uv wq => ∃ u : Nat, u + rr = L.length ∧ uv = .int .i64 (u : Int) ∧ cv = .int .i64 ((((L.take u).filter (fun v => decide (v = (p : Int)))).length : Nat) : Int) ∧ Below B0 w8 wq)
                      case atStart => exact ⟨0, by omega, rfl, by rw [List.take_zero]; rfl, Below.refl _ _⟩
                      case round =>
                        obtain ⟨u, hu, rfl, rfl, hbq⟩ := hrel
                        have HU := hid hu
                        have HBQ := hid hbq
                        have hlc8 := HLC8.out wr hbq
                        have HB8q := hid (HB8.out.trans (hbq.mono HS5.out))
                        have hcr8 := HCR5.out wr HB8q.out
                        have hcm8 := HCM5.out wr HB8q.out
                        clear hbq
                        have hwu : wrap64 ((u : Int) + 1) = (u : Int) + 1 := wrap_1e (by omega) (by have := HQL.out; omega)
                        clear hu
                        by_cases hut : u < L.length
                        · obtain ⟨lb, lo, rfl, hlb, hcl⟩ := (HLP8.out.below HBQ.out).numZ hut
                          have hul : (u : Int) < (L.length : Int) := by omega
                          have hu0 : (0 : Int) ≤ (u : Int) := by omega
                          have HST2 := hid (filter_step (fun v => decide (v = (p : Int))) L u hut)
                          have HFL := hid (filter_take_len (fun v => decide (v = (p : Int))) L u)
                          have HUT := hid hut
                          obtain ⟨v, hv⟩ : ∃ v, v = L[u]'hut := ⟨_, rfl⟩
                          rw [← hv] at hcl HST2
                          obtain ⟨F, hF⟩ : ∃ F, F = ((L.take u).filter (fun v => decide (v = (p : Int)))) := ⟨_, rfl⟩
                          rw [← hF] at HST2 HFL ⊢
                          obtain ⟨fl, hfl⟩ : ∃ n, n = F.length := ⟨_, rfl⟩
                          rw [← hfl] at HFL ⊢
                          have HFE := hid hfl
                          have hwf : wrap64 ((fl : Int) + 1) = (fl : Int) + 1 := wrap_1e (by omega) (by have := HFL.out; have := HQL.out; omega)
                          clear hv hF hfl hut hlb
                          by_cases hvp : v = (p : Int)
                          · have hve : (v == (p : Int)) = true := by rw [beq_iff_eq]; exact hvp
                            have HSN : Hid (((L.take (u + 1)).filter (fun v => decide (v = (p : Int)))).length = fl + 1) := hid (by rw [HST2.out, decide_eq_true hvp, if_pos rfl, List.length_append, HFE.out]; rfl)
                            clear hvp
                            go_upto_region 23 with fail
                            go_quiet (fail)
                            go_wp2
                            have hu := HU.out; have hut := HUT.out
                            go_roundg (L.length - (u + 1))
                            case measure => clear hwu hwf hwj hwi; omega
                            case rel => exact ⟨u + 1, by clear hwu hwf hwj hwi; omega, by first | rfl | (rw [hwu]; rfl), by first | (rw [HSN.out]; rfl) | (rw [HSN.out, hwf]; rfl), HBQ.out.trans (below_dn _ _ _)⟩
                          · have hve : (v == (p : Int)) = false := by rw [beq_eq_false_iff_ne]; exact hvp
                            have HSN : Hid (((L.take (u + 1)).filter (fun v => decide (v = (p : Int)))).length = fl) := hid (by rw [HST2.out, decide_eq_false hvp, if_neg (by simp), List.append_nil, HFE.out])
                            clear hvp
                            go_upto_region 23 with fail
                            go_quiet (fail)
                            go_wp2
                            have hu := HU.out; have hut := HUT.out
                            go_roundg (L.length - (u + 1))
                            case measure => clear hwu hwf hwj hwi; omega
                            case rel => exact ⟨u + 1, by clear hwu hwf hwj hwi; omega, by first | rfl | (rw [hwu]; rfl), by rw [HSN.out], HBQ.out.trans (below_dn _ _ _)⟩
                        · have hge : ¬ (u : Int) < (L.length : Int) := by omega
                          obtain rfl : u = L.length := by have := HU.out; omega
                          rw [List.take_length]
                          obtain ⟨fl, hfl⟩ : ∃ n, n = (L.filter (fun v => decide (v = (p : Int)))).length := ⟨_, rfl⟩
                          rw [← hfl] at HO1 HWN2 ⊢
                          have HFB : Hid (fl ≤ L.length) := hid (by rw [hfl]; exact List.length_filter_le _ _)
                          have hwn1 : wrap64 (n + 1) = n + 1 := wrap_1e (by have := HWN2.out; have := HFB.out; have := HQL.out; omega) (by have := HWN2.out; have := HFB.out; have := HQL.out; omega)
                          have hwn2 : wrap64 (n + 1 - (fl : Int)) = n + 1 - (fl : Int) := wrap_1e (by have := HWN2.out; omega) (by have := HWN2.out; omega)
                          clear hut hfl hwu
                          go_wp2
                          have hj := HJ.out; have hjt := HJLT.out
                          have hrn := HRNE.out; have hmn := HMNE.out
                          subst hrn; subst hmn
                          go_roundg (R.length - (j + 1))
                          case measure => clear hwj hwn1 hwn2 hwi; omega
                          case rel => exact ⟨j + 1, by clear hwj hwn1 hwn2 hwi; omega, by first | rfl | (rw [hwj]; rfl), by first | (rw [HO1.out]; done) | (rw [HO1.out]; rfl) | rw [HO1.out, hwn2], HB8q.out⟩
                · have hge : ¬ (j : Int) < (R.length : Int) := by omega
                  obtain rfl : j = R.length := by have := HJ.out; omega
                  rw [List.take_length, HONP.out]
                  have hcm := HCM5.out wr HB.out
                  obtain ⟨d, hd⟩ : ∃ d, d = 2 * p := ⟨_, rfl⟩
                  have hwd : wrap64 (2 * (p : Int)) = (d : Int) := (wrap_1e (by omega) (by have := HP16.out; omega)).trans (by omega)
                  have HUd : Hid (∀ W, Calls Try.prog 28 #[.int .i64 (d : Int), .int .i64 (y : Int)] W (RetB W (decide (bel p y)))) := hid fun W => by
                    have h := HUn.out d W (by have := HP16.out; omega)
                    rw [hd, HBE.out p HP16.out, ← hd] at h
                    exact h
                  clear hjt hd hwj
                  by_cases hbl : bel p y
                  · rw [decide_eq_true hbl] at HUd
                    rw [if_pos hbl]
                    clear hbl
                    go_wp2_with fail
                    refine (HUd.out _).mono ?_
                    rintro e w6 ⟨rfl, hb⟩
                    have HB6 := hid (HB.out.trans (hb.mono HB.out.size))
                    clear hb HUd HB hcm
                    go_wp2
                    have hi := HI.out; have hlt := HILT.out
                    go_roundg (M.length - (i + 1))
                    case measure => clear hwi; omega
                    case rel => exact ⟨i + 1, by clear hwi; omega, by first | rfl | (rw [hwi]; rfl), HB6.out⟩
                  · rw [decide_eq_false hbl] at HUd
                    rw [if_neg hbl]
                    clear hbl
                    go_wp2_with fail
                    refine (HUd.out _).mono ?_
                    rintro e w6 ⟨rfl, hb⟩
                    have HB6 := hid (HB.out.trans (hb.mono HB.out.size))
                    clear hb HUd HB hcm
                    go_wp2
                    have hi := HI.out; have hlt := HILT.out
                    go_roundg (M.length - (i + 1))
                    case measure => clear hwi; omega
                    case rel => exact ⟨i + 1, by clear hwi; omega, by first | rfl | (rw [hwi]; rfl), HB6.out⟩
            · have hge : ¬ (i : Int) < (M.length : Int) := by omega
              clear hlt hwi
              go_wp2
              go_ret
              exact ⟨rfl, HB5.out.trans (HBi.out.mono HB5.out.size)⟩
        · have h0' : decide (z < 0) = false := decide_eq_false (by omega)
          have h1' : (t.length : Int) ≤ z := by omega
          have h1'' : decide ((t.length : Int) ≤ z) = true := decide_eq_true h1'
          clear hs hm hrg h0 hlt hA hr
          go_enter Try.func6, Try.ntmps6
          go_wp2_with fail
          refine HAl.out.mono ?_
          rintro e w1 ⟨rfl, hb⟩
          have HB1 := hid hb
          clear hb HAl
          go_wp2_with fail
          refine (HSm.out _ HB1.out).mono ?_
          rintro e w2 ⟨rfl, hb⟩
          have HB2 := hid (HB1.out.trans (hb.mono HB1.out.size))
          clear hb HSm HB1
          go_wp2_with fail
          refine (HRt.out _ HB2.out).mono ?_
          rintro e w3 ⟨rfl, hb⟩
          have HB3 := hid (HB2.out.trans (hb.mono HB2.out.size))
          clear hb HRt HB2
          go_wp2
          go_ret
          exact ⟨rfl, HB3.out⟩
      · have h0' : decide (z < 0) = true := decide_eq_true (by omega)
        have h1' : z < 0 := by omega
        clear hs hm hrg h0 hA hr
        go_enter Try.func6, Try.ntmps6
        go_wp2_with fail
        refine HAl.out.mono ?_
        rintro e w1 ⟨rfl, hb⟩
        have HB1 := hid hb
        clear hb HAl
        go_wp2_with fail
        refine (HSm.out _ HB1.out).mono ?_
        rintro e w2 ⟨rfl, hb⟩
        have HB2 := hid (HB1.out.trans (hb.mono HB1.out.size))
        clear hb HSm HB1
        go_wp2_with fail
        refine (HRt.out _ HB2.out).mono ?_
        rintro e w3 ⟨rfl, hb⟩
        have HB3 := hid (HB2.out.trans (hb.mono HB2.out.size))
        clear hb HRt HB2
        go_wp2
        go_ret
        exact ⟨rfl, HB3.out⟩
    · rw [show rgt t = false by simpa using hrg] at HRt
      clear hs hm hrg hA hr
      go_enter Try.func6, Try.ntmps6
      go_wp2_with fail
      refine HAl.out.mono ?_
      rintro e w1 ⟨rfl, hb⟩
      have HB1 := hid hb
      clear hb HAl
      go_wp2_with fail
      refine (HSm.out _ HB1.out).mono ?_
      rintro e w2 ⟨rfl, hb⟩
      have HB2 := hid (HB1.out.trans (hb.mono HB1.out.size))
      clear hb HSm HB1
      go_wp2_with fail
      refine (HRt.out _ HB2.out).mono ?_
      rintro e w3 ⟨rfl, hb⟩
      have HB3 := hid (HB2.out.trans (hb.mono HB2.out.size))
      clear hb HRt HB2
      go_wp2
      go_ret
      exact ⟨rfl, HB3.out⟩
  · rw [show smallT t = false by simpa using hs] at HSm
    clear hs hA hr
    go_enter Try.func6, Try.ntmps6
    go_wp2_with fail
    refine HAl.out.mono ?_
    rintro e w1 ⟨rfl, hb⟩
    have HB1 := hid hb
    clear hb HAl
    go_wp2_with fail
    refine (HSm.out _ HB1.out).mono ?_
    rintro e w2 ⟨rfl, hb⟩
    have HB2 := hid (HB1.out.trans (hb.mono HB1.out.size))
    clear hb HSm HB1
    go_wp2
    go_ret
    exact ⟨rfl, HB2.out⟩
end Go.Proofs.Ythooibljnfnnhaa
end
