/-
  Texts of this claim in one file: Law17a, Law17b, Law17c, Law17d, Law17f.
-/
import Derived.Test.YthooibljnfnnhaaPk20
import Derived.Test.YthooibljnfnnhaaPk21
import Derived.Test.YthooibljnfnnhaaPk9
import Derived.Test.YthooibljnfnnhaaPk18
import Derived.Test.YthooibljnfnnhaaPk10
section
namespace Go.Proofs.Ythooibljnfnnhaa
open Go Go.RowKit
set_option linter.unusedVariables false
set_option linter.unusedSimpArgs false
theorem infoU8t : (Try.prog.info? 5).map (fun i => (i.zero, i.size, i.bytes)) = some (some (.int .u8 0), 1, 1) := by kernel_rfl
def z17 (n : Nat) : Array Value := madeCells #[.int .u8 0] n
theorem mkB17 (n : Nat) (hn : n ≤ 1000) (W : World) : (Instr.makeSlice 25 (.int .i64 (n : Int)) (.int .i64 (n : Int))).run Try.prog W = .ok (.slice (some ⟨W.heap.size, 0, none⟩) n n) (W.alloc (.cells (z17 n) 5)) := by
  obtain ⟨i, hi, hz, hsize, hby⟩ := info_parts infoU8t
  have h := run_make (P := Try.prog) W 25 5 i _ Try.underlying25 hi hz .i64 .i64 (n : Int) (n : Int) (by omega) (by omega) (by rw [hby]; omega) (by omega)
  rw [hsize, Int.toNat_natCast, show (Value.int .u8 0).cells = #[Value.int .u8 0] from rfl, Nat.mul_one] at h
  exact h
def zs (n : Nat) : List UInt8 := List.replicate n 0
theorem zs_lie {W : World} {p n : Nat} (h : W.heap[p]? = some (.cells (z17 n) 5 (0, 0))) : Lie W W.heap.size (some ⟨p, 0, none⟩) (bvs (zs n)) := fun _ =>
  ⟨p, 0, rfl, block_lt h, fun j u hu => by
    have hj : j < n := by have := (List.getElem?_eq_some_iff.1 hu).1; rw [bvs_length] at this; unfold zs at this; rw [List.length_replicate] at this; exact this
    rw [Nat.zero_add]
    refine cell_of h j u ?_
    rw [← hu]
    unfold z17 madeCells bvs zs
    rw [Array.getElem?_map, Array.getElem?_range, if_pos hj, List.getElem?_map, List.getElem?_replicate, if_pos hj]
    simp [Nat.mod_one]⟩
def oneL : Lf := ⟨zs 32, zs 32, [1], 1, [], zs 64⟩
def oneN : Nd := ⟨1, oneL, pr0⟩
theorem one_out (w W : World) (p1 p2 p3 p4 p5 : Nat) (h1 : W.heap[p1]? = some (.cells (z17 32) 5 (0, 0))) (h2 : W.heap[p2]? = some (.cells (z17 32) 5 (0, 0))) (h3 : W.heap[p3]? = some (.cells #[.int .u8 1] 5 (0, 0))) (h4 : W.heap[p4]? = some (.cells (z17 64) 5 (0, 0)))
    (h5 : W.heap[p5]? = some (.cells #[.int .u8 1, .slice (some ⟨p1, 0, none⟩) 32 32, .slice (some ⟨p2, 0, none⟩) 32 32, .slice (some ⟨p3, 0, none⟩) 1 1, .int .u8 1, .slice none 0 0, .slice (some ⟨p4, 0, none⟩) 64 64, .slice none 0 0, .slice none 0 0, .slice none 0 0] NdT (0, 0))) : TrA w [oneN] (some ⟨p5, 0, none⟩) 1 W := by
  refine ⟨[⟨⟨some ⟨p1, 0, none⟩, some ⟨p2, 0, none⟩, some ⟨p3, 0, none⟩, none, some ⟨p4, 0, none⟩, 32, 32, 1, 0, 64⟩, pa0⟩], ⟨rfl, fun _ => ⟨p5, 0, rfl, block_lt h5, fun j u hu => ?_⟩, fun j n a hn ha => ?_⟩, ⟨Nat.le_refl _, by decide⟩, fun j n a hn ha => ?_⟩
  · rw [Nat.zero_add]
    refine cell_of h5 j u ?_
    rw [← hu]
    have hj : j < 10 := (List.getElem?_eq_some_iff.1 hu).1
    rcases j with _ | _ | _ | _ | _ | _ | _ | _ | _ | _ | j
    all_goals first | rfl | omega
  · rcases j with _ | j
    · cases hn; cases ha
      refine ⟨⟨zs_lie h1, zs_lie h2, fun _ => ⟨p3, 0, rfl, block_lt h3, fun j u hu => ?_⟩, Lie.nil, zs_lie h4⟩, Lie.nil, Lie.nil, Lie.nil⟩
      rw [Nat.zero_add]
      refine cell_of h3 j u ?_
      rw [← hu]
      rcases j with _ | j
      · rfl
      · rfl
    · cases hn
  · rcases j with _ | j
    · cases hn; cases ha
      exact ⟨Nat.zero_le _, (show (0 : Nat) ≤ 9223372036854775807 by decide)⟩
    · cases hn
theorem wpOp_run17 {P : Program} {ops : Array Oper} {Q : Exit → Act → World → Prop} {i : Nat} {o : Oper} {K : Act → World → Prop} {a : Act} {w w' : World} {v : Value} (hi : ops[i]? = some o) (hg : o.guard = none) (hz : (execOp a.eval o).run P w = .ok (.value v) w') (h : K (a.put o.dst v) w') : wpOp P ops Q i K a w := by
  unfold wpOp
  simp only [hi]
  rw [if_pos (by simp [Region.wanted, hg])]
  unfold Oper.wp
  rw [hz]
  exact .inl h
def oV (i p : Nat) : Value := .slice (some ⟨p, 0, none⟩) (match i with | 0 => 32 | 1 => 32 | 2 => 1 | _ => 64) (match i with | 0 => 32 | 1 => 32 | 2 => 1 | _ => 64)
def oO (i : Nat) : Obj := match i with | 0 => .cells (z17 32) 5 | 1 => .cells (z17 32) 5 | 2 => .cells #[.int .u8 1] 5 | _ => .cells (z17 64) 5
def oF (f : Option Nat) (n : Nat) : Value := match f with | none => undef | some p => .slice (some ⟨p, 0, none⟩) n n
def oFr (f0 f1 f2 f3 : Option Nat) : Act := { tmps := #[.slice none 0 0, oF f0 32, oF f1 32, oF f2 1, oF f3 64, undef, undef, undef], defers := [] }
set_option maxRecDepth 100000 in
set_option maxHeartbeats 8000000 in
theorem one_e (w : World) : Calls Try.prog 30 #[] w fun e w' => ∃ A, e = .returned (.slice A 1 1) ∧ TrA w [oneN] A 1 w' ∧ Below w.heap.size w w' := by
  have h32 : ∀ W : World, (Instr.makeSlice 25 (.int .i64 32) (.int .i64 32)).run Try.prog W = .ok (.slice (some ⟨W.heap.size, 0, none⟩) 32 32) (W.alloc (.cells (z17 32) 5)) := mkB17 32 (by decide)
  have h64 : ∀ W : World, (Instr.makeSlice 25 (.int .i64 64) (.int .i64 64)).run Try.prog W = .ok (.slice (some ⟨W.heap.size, 0, none⟩) 64 64) (W.alloc (.cells (z17 64) 5)) := mkB17 64 (by decide)
  go_enter Try.func30, Try.ntmps30
  go_upto_region 1 with fail
  refine wp_region_gr 4 (by kernel_rfl) (by decide) fun w1 hb1 => ?_
  refine wpGr_mk4 oO oV (fun i => some (i + 1)) (fun b0 b1 b2 b3 => #[b0, b1, b2, b3, false, false, false, false]) oFr w1 (by decide) ?mk ?rd ?_ ?_ ?_ ?_ ?_ ?_ ?_ ?_ ?fin 4 none none none none w1 rfl (Below.refl _ _) (fun p h => by cases h) (fun p h => by cases h) (fun p h => by cases h) (fun p h => by cases h)
  case rd => decide +kernel
  case mk =>
    intro i a W K hi hK
    rcases i with _ | _ | _ | _ | i
    · exact wpOp_run17 (v := .slice (some ⟨W.heap.size, 0, none⟩) 32 32) (w' := W.alloc (.cells (z17 32) 5)) rfl rfl (by have h := h32 W; (go_simp; try rfl)) hK
    · exact wpOp_run17 (v := .slice (some ⟨W.heap.size, 0, none⟩) 32 32) (w' := W.alloc (.cells (z17 32) 5)) rfl rfl (by have h := h32 W; (go_simp; try rfl)) hK
    · exact wpOp_sliceTo1 rfl rfl 25 5 1 #[(0, .const (.int .u8 1))] rfl Try.underlying25 #[.int .u8 1] (by kernel_rfl) hK
    · exact wpOp_run17 (v := .slice (some ⟨W.heap.size, 0, none⟩) 64 64) (w' := W.alloc (.cells (z17 64) 5)) rfl rfl (by have h := h64 W; (go_simp; try rfl)) hK
    · omega
  case fin =>
    intro p0 p1 p2 p3 W hb h0 h1 h2 h3
    have HB := hid (hb1.trans (hb.mono hb1.size))
    have H0 := hid h0; have H1 := hid h1; have H2 := hid h2; have H3 := hid h3
    clear hb hb1 h0 h1 h2 h3 h32 h64
    refine ⟨by kernel_rfl, ?_⟩
    simp only [List.drop_succ_cons, List.drop_zero, oFr, oF]
    go_wp2
    go_ret
    refine ⟨_, rfl, one_out w _ p0 p1 p2 p3 W.heap.size ?_ ?_ ?_ ?_ (heap_alloc_new W _), HB.out.alloc HB.out.size _⟩
    · exact (Below.heap_alloc _ _ _ (block_lt H0.out)).trans H0.out
    · exact (Below.heap_alloc _ _ _ (block_lt H1.out)).trans H1.out
    · exact (Below.heap_alloc _ _ _ (block_lt H2.out)).trans H2.out
    · exact (Below.heap_alloc _ _ _ (block_lt H3.out)).trans H3.out
  all_goals (intros; rfl)
end Go.Proofs.Ythooibljnfnnhaa
end
section
namespace Go.Proofs.Ythooibljnfnnhaa
open Go Go.RowKit
set_option linter.unusedVariables false
set_option linter.unusedSimpArgs false
theorem one_lf : leafB oneL = true := by decide
theorem one_rt : Rt [oneN] 0 := by
  have h0 : ∀ x, x < [oneN].length → x = 0 := fun x hx => by simpa using hx
  refine ⟨⟨rfl, by decide⟩, fun x hx => ?_, fun x hx he => ?_, fun x hx ho => ?_, ⟨0, by decide, rfl, .inl rfl⟩, fun x hx l hl => ?_⟩
  · rw [h0 x hx]; exact (show rightB 1 oneL pr0 = true by decide)
  · rw [h0 x hx]; exact (show (1 : Nat) ≠ 2 by decide)
  · have := h0 x hx; omega
  · rw [h0 x hx] at hl; cases hl
theorem one_m : TrM [oneN] := ⟨by decide, fun j n hn => by
  rcases j with _ | j
  · cases hn
    exact ⟨by show LfM oneL; unfold LfM; decide, by show PrM pr0; unfold PrM; decide, (show (1 : Nat) < 256 by decide), fun v hv => by cases hv⟩
  · cases hn⟩
theorem one_200 : Lf200 oneL := by unfold Lf200; decide
theorem one_mem : memR [oneN] = [0] := by unfold memR; rw [if_pos (rgt_yes one_rt)]; decide
theorem one_fil : filR [oneN] 0 = [] := by
  have h := filR_yes (i := 0) one_rt (by decide)
  exact h
theorem one_kT : kT [oneN] = 0 := kT_is one_rt.size
theorem one_I : addI [oneN] 0 = 1 := by decide
theorem one_G : addG [oneN] oneL = true := by unfold addG; rw [rgt_yes one_rt, one_lf, one_kT, one_I]; decide
theorem one_addE : addE [oneN] oneL = 0 := by unfold addE; rw [if_pos (rgt_yes one_rt), if_pos one_lf, one_kT, one_I]; decide
theorem one_addP : addP [oneN] oneL = 1 := by unfold addP; rw [if_pos one_G, one_kT, one_I]
theorem one_addR : addR [oneN] oneL = addU [oneN] 0 oneL := by unfold addR; rw [if_pos one_G, one_kT]
theorem one_len : (addU [oneN] 0 oneL).length = 3 := by unfold addU; rw [addT_length]; decide
theorem one_leaf2 : (nAt (addU [oneN] 0 oneL) 2).k = 1 := by
  have h := (addU_leaf (l := oneL) one_rt (by rw [one_I]; decide)).1
  rw [one_I] at h
  rw [h]
theorem nil_no : rgt [] = false := rgt_no fun K h => by have := h.size.1; have := Nat.two_pow_pos K; simp at *; omega
theorem nil_q (w : World) (B : Nat) : TrQ w B none 0 [] [] := ⟨TrIn.nil _ _ _, ⟨Nat.le_refl _, by decide⟩, fun j n a h => by cases h⟩
theorem nil_m : TrM [] := ⟨by decide, fun j n h => by cases h⟩
abbrev lfLL (x : Lf) (a : LA) : List Value := [.slice a.a0 x.box.length a.c0, .slice a.a1 x.sign.length a.c1, .slice a.a2 x.ident.length a.c2, .int .u8 (x.src : Int), .slice a.a3 x.par.length a.c3, .slice a.a4 x.sig.length a.c4]
theorem lf_ll {w : World} {b o : Nat} {n : Nd} {a : NA} (h : w.rangeAt b o (ndL n a)) : w.rangeAt b (o + 1) (lfLL n.x a.l) := lf_range h
def Alive17 : Prop := ∀ W : World, Calls Try.prog 8 #[] W (RetB W true)
set_option maxRecDepth 100000 in
set_option maxHeartbeats 8000000 in
theorem alive17 : Alive17 := fun w => by
  have HOne := hid (one_e w)
  go_enter Try.func8, Try.ntmps8
  go_wp2_with fail
  refine HOne.out.mono ?_
  rintro e w1 ⟨A, rfl, ⟨ad, hq⟩, hb⟩
  have HB1 := hid hb; have HQ := hid hq
  obtain ⟨b, o, n, a, rfl, hbl, hn, ha, -, hni, hr⟩ := hq.tr.at2 (j := 0) (by decide)
  rw [Nat.zero_mul, Nat.add_zero] at hr
  have hn1 : n = oneN := (Option.some.inj hn).symm
  subst hn1
  have HR : Hid (w1.rangeAt b (o + 1) (lfLL oneL a.l)) := hid (lf_ll hr)
  have HAd := hid (tree_add (some ⟨b, o, none⟩) [oneN] ad 1 oneL a.l w1 hq one_m hni.1 one_200)
  rw [one_addE, one_addP, one_addR, one_len, show [oneN].length = 1 from rfl] at HAd
  clear hb hq hr hni ha hn hbl HOne
  go_wp2_with (with_reducible refine wpList_load_mid rfl LfT (.tmp 10) rfl b (o + 1) rfl (lfLL oneL a.l) _ HR.out Try.underlying27 rfl infoLf ?_)
  refine HAd.out.mono ?_
  rintro e w2 ⟨A2, c2, rfl, ⟨ad2, hq2⟩, hb⟩
  have HB2 := hid (HB1.out.trans (hb.mono HB1.out.size))
  have HQ2 := hid (HQ.out.up hb)
  have HU2 := hid hq2
  have HMe := hid (tree_members (some ⟨b, o, none⟩) [oneN] ad 1 w2 HQ2.out one_m)
  rw [one_mem] at HMe
  clear hb hq2 HAd HR HB1 HQ
  go_wp2_with fail
  refine HMe.out.mono ?_
  rintro e w3 ⟨v, rfl, ho, hb⟩
  have HB3 := hid (HB2.out.trans (hb.mono HB2.out.size))
  have HQ3 := hid (HQ2.out.up hb); have HU3 := hid (HU2.out.up hb)
  obtain ⟨MA, mc, rfl, hs⟩ := own_sl ho
  have HSm : Hid (Calls Try.prog 15 #[.slice MA 1 mc, .slice (some ⟨w3.heap.size, 0, none⟩) 1 1] (w3.alloc (.cells #[.int .i64 0] 3)) (RetB (w3.alloc (.cells #[.int .i64 0] 3)) true)) := hid (by
    have h := Same14_any MA [0] mc (some ⟨w3.heap.size, 0, none⟩) [0] 1 (w3.alloc (.cells #[.int .i64 0] 3)) w3.heap.size (w3.heap.size + 1) (hs.lie.alloc (Nat.le_refl _) _) (Lie.new1 w3 (.int .i64 0) 3) (by decide)
    refine h.mono fun e w' h' => ?_
    first | exact h' | exact ⟨h'.1, by rw [h'.2]; exact Below.refl _ _⟩ | (obtain ⟨h1, q, h2⟩ := h'; exact ⟨h1, by rw [h2]; exact below_dn _ _ _⟩))
  have HA3 : Hid (Below w3.heap.size w3 (w3.alloc (.cells #[.int .i64 0] 3))) := hid ((Below.refl _ _).alloc (Nat.le_refl _) _)
  clear ho hb hs HMe HB2 HQ2 HU2
  go_wp2_with fail
  refine HSm.out.mono ?_
  rintro e w4 ⟨rfl, hb⟩
  have hb34 := HA3.out.trans (hb.mono HA3.out.size)
  have HB4 := hid (HB3.out.trans (hb34.mono HB3.out.size))
  have HQ4 := hid (HQ3.out.up hb34); have HU4 := hid (HU3.out.up hb34)
  have HFi := hid (tree_filtered (some ⟨b, o, none⟩) [oneN] ad 1 0 w4 HQ4.out one_m)
  rw [one_fil] at HFi
  clear hb hb34 HSm HA3 HB3 HQ3 HU3
  go_wp2_with fail
  refine HFi.out.mono ?_
  rintro e w5 ⟨v, rfl, ho, hb⟩
  have HB5 := hid (HB4.out.trans (hb.mono HB4.out.size))
  have HU5 := hid (HU4.out.up hb)
  obtain ⟨FA, fc, rfl, -⟩ := own_sl ho
  have hl3 : 2 < (addU [oneN] 0 oneL).length := by rw [one_len]; decide
  obtain ⟨b2, o2, n2, a2, rfl, hbl2, -, hnt2, -, hr2⟩ := HU5.out.tr.at_ hl3
  have hkc := kind_at hr2
  have hk1 : n2.k = 1 := by rw [hnt2]; exact one_leaf2
  rw [hk1] at hkc
  have HRn := hid (tree_right none [] [] 0 w5 (nil_q _ _) nil_m)
  rw [nil_no] at HRn
  clear ho hb hl3 hbl2 hnt2 hr2 hk1 HFi HB4 HQ4 HU4 HU5
  go_wp2_with fail
  refine HRn.out.mono ?_
  rintro e w6 ⟨rfl, hb⟩
  have HB6 := hid (HB5.out.trans (hb.mono HB5.out.size))
  clear hb HRn HB5 hkc
  go_wp2
  go_ret
  exact ⟨rfl, HB6.out⟩
end Go.Proofs.Ythooibljnfnnhaa
end
section
namespace Go.Proofs.Ythooibljnfnnhaa
open Go Go.RowKit
set_option linter.unusedVariables false
set_option linter.unusedSimpArgs false
/-- What any argument's nodes bear. -/
def Rng (t : List Nd) : Prop := ∀ (j : Nat) (n : Nd), t[j]? = some n → n.k < 256 ∧ n.x.src < 256 ∧ Late64 n.u
theorem small_m {t : List Nd} (h : smallT t = true) (hr : Rng t) : TrM t := by
  obtain ⟨h1, h2⟩ := smallT_iff.1 h
  refine ⟨by omega, fun j n hn => ?_⟩
  obtain ⟨hj, he⟩ := List.getElem?_eq_some_iff.1 hn
  obtain ⟨r1, r2, r3⟩ := hr j n hn
  have h3 := h2 j hj
  rw [he] at h3
  obtain ⟨s1, s2, -, -⟩ := small_le h3 r2
  exact ⟨lf200_m s1, pr200_m s2, r1, r3⟩
theorem wrap_1e {z : Int} (h1 : -2000000000000000000 ≤ z) (h2 : z ≤ 2000000000000000000) : wrap64 z = z := by unfold wrap64; omega
end Go.Proofs.Ythooibljnfnnhaa
end
section
namespace Go.Proofs.Ythooibljnfnnhaa
open Go Go.RowKit
set_option linter.unusedVariables false
set_option linter.unusedSimpArgs false
theorem setRow_alloc17 (w : World) (cs ds : Array Value) (T : TypeId) : (w.alloc (.cells cs T)).setRow w.heap.size ds = w.alloc (.cells ds T) := by
  unfold World.setRow World.alloc
  simp only [World.mk.injEq, true_and, and_true]
  refine Array.ext_getElem? fun i => ?_
  rw [Array.getElem?_modify, Array.getElem?_push, Array.getElem?_push]
  by_cases h : w.heap.size = i
  · subst h; simp
  · rw [if_neg h, if_neg (fun e => h e.symm), if_neg (fun e => h e.symm)]
/-- Any row of nodes, and its lists of members told the same way. -/
theorem same_l {A A' : Option Addr} {xs ys : List Nat} {c c' : Nat} {W : World} {B B' : Nat} (h : Lie W B A (ivs xs)) (h' : Lie W B' A' (ivs ys)) (hl : xs.length ≤ 1000000) (he : xs = ys) : Calls Try.prog 15 #[.slice A xs.length c, .slice A' ys.length c'] W (RetB W true) := by
  have h := Same14_any A xs c A' ys c' W B B' h h' (by omega)
  refine h.mono fun e w' h' => ?_
  have hq : (xs == ys) = true := by rw [beq_iff_eq]; exact he
  first
    | (obtain ⟨h1, q, h2⟩ := h'; exact ⟨by rw [h1, hq], by rw [h2]; exact below_dn _ _ _⟩)
    | exact ⟨by rw [h'.1, hq], by rw [h'.2]; exact Below.refl _ _⟩
end Go.Proofs.Ythooibljnfnnhaa
end
section
namespace Go.Proofs.Ythooibljnfnnhaa
open Go Go.RowKit
set_option linter.unusedVariables false
set_option linter.unusedSimpArgs false
/-- What the document's Right answers. -/
def RgtOk : Prop := ∀ (A : Option Addr) (t : List Nd) (ad : List NA) (c : Nat) (w : World), TrIn w w.heap.size A t ad → TrM t → Calls Try.prog 10 #[.slice A t.length c] w (RetB w (rgt t))
theorem wrapD {i : Nat} (h : i ≤ 1000000) : wrap64 (2 * (i : Int)) = ((2 * i : Nat) : Int) := by rw [wrap_1e (by omega) (by omega)]; omega
theorem mbB_isT {t : List Nd} {K : Nat} (h : Sz t K) (z : Int) : mbB t z = isT t z := by
  rw [Bool.eq_iff_iff, isT_of h]
  constructor
  · intro hm
    obtain ⟨i, hi, h1, h2⟩ := mbB_of h hm
    exact ⟨i, hi, mem_memT.2 ⟨h1, h2⟩⟩
  · rintro ⟨i, rfl, hi⟩
    obtain ⟨h1, h2⟩ := mem_memT.1 hi
    exact mbB_nat h h1 h2
set_option maxRecDepth 100000 in
set_option maxHeartbeats 16000000 in
theorem treeRight_any (hRg : RgtOk) (A : Option Addr) (t : List Nd) (ad : List NA) (c : Nat) (z : Int) (w : World) (hA : TrQ w w.heap.size A c t ad) (hr : Rng t) : Calls Try.prog 3 #[.slice A t.length c, .int .i64 z] w (RetB w true) := by
  have HAl := hid alive17
  have HSm : Hid (∀ W, Below w.heap.size w W → Calls Try.prog 9 #[.slice A t.length c] W (RetB W (smallT t))) := hid fun W hb => Small17_any A t ad c W (hA.tr.up hb)
  by_cases hs : smallT t = true
  · rw [hs] at HSm
    have hm := small_m hs hr
    have HRt : Hid (∀ W, Below w.heap.size w W → Calls Try.prog 12 #[.slice A t.length c] W (RetB W (rgt t))) := hid fun W hb => tree_right A t ad c W (hA.up hb) hm
    have HDo : Hid (∀ W, Below w.heap.size w W → Calls Try.prog 10 #[.slice A t.length c] W (RetB W (rgt t))) := hid fun W hb => hRg A t ad c W (hA.tr.up hb) hm
    have HMe : Hid (∀ W, Below w.heap.size w W → Calls Try.prog 13 #[.slice A t.length c] W (OwnLn W (memR t))) := hid fun W hb => tree_members A t ad c W (hA.up hb) hm
    have HLf : Hid (∀ W, Below w.heap.size w W → Calls Try.prog 11 #[.slice A t.length c, .int .i64 z] W fun e w' => ∃ la, e = .returned (.tuple #[.agg (lfV (lfG t z) la), .bool (rgt t && mbB t z)]) ∧ LfIn w' (lfG t z) la ∧ Below W.heap.size W w') := hid fun W hb => tree_leaf A t ad c z W (hA.up hb) hm
    have h40 := (smallT_iff.1 hs).1
    by_cases hrg : rgt t = true
    · rw [hrg] at HRt HDo
      obtain ⟨K, hK⟩ := rgt_rt hrg
      have HDM : Hid (∀ W, Below w.heap.size w W → Calls Try.prog 16 #[.slice A t.length c] W (OwnLn W (memR t))) := hid fun W hb => by
        have h := Members17_any A t ad c W (hA.tr.up hb) (by omega)
        rw [rt_half hK.size, ← memR_of hK] at h
        exact h
      have HIs : Hid (∀ W, Below w.heap.size w W → Calls Try.prog 17 #[.slice A t.length c, .int .i64 z] W (RetB W (mbB t z))) := hid fun W hb => by
        have h := Is17_any A t ad c z W (hA.tr.up hb) (by omega)
        rw [← mbB_isT hK.size] at h
        exact h
      have HML : Hid ((memR t).length ≤ 65536) := hid (by rw [memR_of hK]; exact Nat.le_trans (memT_len _ _) (pow_le16 hK.size.2))
      have HA := hid hA
      have HM := hid hm
      rw [hrg, Bool.true_and] at HLf
      by_cases hmb : mbB t z = true
      · rw [hmb] at HLf HIs
        obtain ⟨i, rfl, hi, hk⟩ := mbB_of hK.size hmb
        have hG : lfG t (i : Int) = (nAt t (2 * i)).x := by unfold lfG; rw [if_pos hrg, if_pos hmb, Int.toNat_natCast]
        rw [hG] at HLf
        have HIT : Hid (2 * i < t.length) := hid (by rw [hK.size.1]; omega)
        obtain ⟨LX, hLX⟩ : ∃ L, L = (nAt t (2 * i)).x := ⟨_, rfl⟩
        rw [← hLX] at HLf
        have HLXE := hid hLX
        obtain ⟨ML, hML⟩ : ∃ m, m = memR t := ⟨_, rfl⟩
        rw [← hML] at HMe HDM HML
        clear hs hr hm hrg hmb hK hi hk hG hA hLX hML h40
        go_enter Try.func3, Try.ntmps3
        go_wp2_with fail
        refine (HAl.out w).mono ?_
        rintro e w1 ⟨rfl, hb⟩
        have HB1 := hid hb
        clear hb HAl
        go_wp2_with fail
        refine (HSm.out w1 HB1.out).mono ?_
        rintro e w2 ⟨rfl, hb⟩
        have HB2 := hid (HB1.out.trans (hb.mono HB1.out.size))
        clear hb HSm HB1
        go_wp2_with fail
        refine (HDo.out w2 HB2.out).mono ?_
        rintro e w3 ⟨rfl, hb⟩
        have HB3 := hid (HB2.out.trans (hb.mono HB2.out.size))
        clear hb HDo HB2
        go_wp2_with fail
        refine (HLf.out w3 HB3.out).mono ?_
        rintro e w4 ⟨la, rfl, hlf, hb⟩
        have HB4 := hid (HB3.out.trans (hb.mono HB3.out.size))
        obtain ⟨X, hX⟩ : ∃ X, X = w4.alloc (.cells (lfV LX la) LfT) := ⟨_, rfl⟩
        have hbX : Below w4.heap.size w4 X := by rw [hX]; exact (Below.refl _ _).alloc (Nat.le_refl _) _
        have HBX := hid (HB4.out.trans (hbX.mono HB4.out.size))
        have HLX := hid (hlf.on hbX)
        have KX : Hid (X.heap[w4.heap.size]? = some (.cells (lfV LX la) LfT (0, 0))) := hid (by rw [hX]; exact heap_alloc_new w4 _)
        have KA : Hid ((w4.alloc (.cells lfZ LfT)).heap[w4.heap.size]? = some (.cells lfZ LfT (0, 0))) := hid (heap_alloc_new w4 _)
        have hset : (w4.alloc (.cells lfZ LfT)).setRow w4.heap.size (lfV LX la) = X := by rw [hX]; exact setRow_alloc17 w4 lfZ (lfV LX la) LfT
        have HRX := hid (HRt.out X HBX.out)
        have HGX : Hid (∀ W, Below X.heap.size X W → W.rangeAt w4.heap.size 0 (lfLL LX la)) := hid fun W hb j v hj => by
          rw [Nat.zero_add]
          exact cell_of ((hb.block _ (block_lt KX.out)).trans KX.out) j v (by rw [← Array.getElem?_toList]; exact hj)
        clear hb hlf HLf HB3 hX hbX HB4
        obtain ⟨g, hg⟩ : ∃ g, g = w4.heap.size := ⟨_, rfl⟩
        go_wp2_with (with_reducible refine wpList_store_row rfl LfT (.tmp 6) _ rfl w4.heap.size (lfV LX la) rfl rfl LfT lfZ KA.out infoLf lfZ_size lfV_one ?_; rw [hset])
        rw [← hg] at HGX ⊢
        refine HRX.out.mono ?_
        rintro e w5 ⟨rfl, hb⟩
        have HB5 := hid (HBX.out.trans (hb.mono HBX.out.size))
        have HX5 := hid hb
        clear hb HRX HRt KX KA hset hg
        go_wp2_with fail
        refine (HMe.out w5 HB5.out).mono ?_
        rintro e w6 ⟨v, rfl, ho, hb⟩
        have HB6 := hid (HB5.out.trans (hb.mono HB5.out.size))
        have HX6 := hid (HX5.out.trans (hb.mono HX5.out.size))
        obtain ⟨MA, mc, rfl, hsl⟩ := own_sl ho
        have HM6 := hid hsl.lie
        clear ho hb hsl HMe HB5 HX5
        go_wp2_with fail
        refine (HDM.out w6 HB6.out).mono ?_
        rintro e w7 ⟨v, rfl, ho, hb⟩
        have HB7 := hid (HB6.out.trans (hb.mono HB6.out.size))
        have HX7 := hid (HX6.out.trans (hb.mono HX6.out.size))
        obtain ⟨DA, dc, rfl, hsl⟩ := own_sl ho
        have HSM := hid (same_l (c := mc) (c' := dc) (lie_on HM6.out hb) hsl.lie (by have := HML.out; omega) rfl)
        clear ho hb hsl HDM HB6 HX6 HM6
        go_wp2_with fail
        refine HSM.out.mono ?_
        rintro e w8 ⟨rfl, hb⟩
        have HB8 := hid (HB7.out.trans (hb.mono HB7.out.size))
        have HX8 := hid (HX7.out.trans (hb.mono HX7.out.size))
        clear hb HSM HB7 HX7
        go_wp2_with fail
        refine (HIs.out w8 HB8.out).mono ?_
        rintro e w9 ⟨rfl, hb⟩
        have HB9 := hid (HB8.out.trans (hb.mono HB8.out.size))
        have HX9 := hid (HX8.out.trans (hb.mono HX8.out.size))
        clear hb HIs HB8 HX8
        obtain ⟨b, o, n, a, rfl, hbl, hnn, hne, hni, hrg⟩ := (HA.out.tr.up HB9.out).at_ HIT.out
        have hxe : n.x = LX := by rw [HLXE.out, hne]
        subst hxe
        have HSL : Hid (∀ W, Below w9.heap.size w9 W → Calls Try.prog 14 #[.agg (lfV n.x la), .agg (lfV n.x a.l)] W (RetB W true)) := hid fun W hb => by
          have h := SameLeaf16_any n.x n.x la a.l W ((HLX.out.on HX9.out).on hb) (LfIn.on hni.1 hb) (lfM_le (HM.out.2 _ n hnn).1)
          rw [sameLf_refl] at h
          exact h
        have HGW : Hid (∀ W, Below w9.heap.size w9 W → W.rangeAt g 0 (lfLL n.x la)) := hid fun W hb => HGX.out W (HX9.out.trans (hb.mono HX9.out.size))
        have hrl := lf_ll hrg
        have HRW : Hid (∀ W, Below w9.heap.size w9 W → W.rangeAt b (o + 2 * i * 10 + 1) (lfLL n.x a.l)) := hid fun W hb j v hj => (hb.cell (p := ⟨b, o + 2 * i * 10 + 1 + j, none⟩) hbl).trans (hrl j v hj)
        have hxl := HIT.out
        have hw2 : wrap64 (2 * (i : Int)) = ((2 * i : Nat) : Int) := wrapD (by have := HM.out.1; omega)
        obtain ⟨x, hx⟩ : ∃ x, x = 2 * i := ⟨_, rfl⟩
        rw [← hx] at hxl hw2 HRW
        have hxi : (x : Int) < (t.length : Int) := by clear hw2; omega
        have hx0 : (0 : Int) ≤ (x : Int) := by clear hw2; omega
        obtain ⟨tn, htn⟩ : ∃ k, k = t.length := ⟨_, rfl⟩
        rw [← htn] at hxi ⊢
        have HBK := HB9
        clear htn hx hrg hni hne hnn hrl hbl hxl
        go_upto_region 13 with fail
        refine wp_region_grA 20 (by kernel_rfl) (by decide) ?_
        refine wpGrA_take (i := 0) (.bool true) rfl (by kernel_rfl) (by kernel_rfl) (fun _ _ _ h => h) (yG_val _ (by rfl) (fun w' _ => by (go_simp; try rfl))) ?_
        (try simp only [Act.put, List.getElem_toArray, List.getElem_cons_succ, List.getElem_cons_zero, List.setIfInBounds_toArray, List.set_cons_zero, List.set_cons_succ])
        refine wpGrA_take (i := 1) (.bool false) rfl (by kernel_rfl) (by kernel_rfl) (fun _ _ _ h => h) (yG_val _ (by rfl) (fun w' _ => by (go_simp; try rfl))) ?_
        (try simp only [Act.put, List.getElem_toArray, List.getElem_cons_succ, List.getElem_cons_zero, List.setIfInBounds_toArray, List.set_cons_zero, List.set_cons_succ])
        refine wpGrA_take (i := 2) (.bool false) rfl (by kernel_rfl) (by kernel_rfl) (fun _ _ _ h => h) (yG_val _ (by rfl) (fun w' _ => by (go_simp; try rfl))) ?_
        (try simp only [Act.put, List.getElem_toArray, List.getElem_cons_succ, List.getElem_cons_zero, List.setIfInBounds_toArray, List.set_cons_zero, List.set_cons_succ])
        refine wpGrA_take (i := 3) (undef) rfl (by kernel_rfl) (by kernel_rfl) (fun _ _ _ h => h) (yG_skip (by rfl)) ?_
        (try simp only [Act.put, List.getElem_toArray, List.getElem_cons_succ, List.getElem_cons_zero, List.setIfInBounds_toArray, List.set_cons_zero, List.set_cons_succ])
        refine wpGrA_take (i := 4) (undef) rfl (by kernel_rfl) (by kernel_rfl) (fun _ _ _ h => h) (yG_skip (by rfl)) ?_
        (try simp only [Act.put, List.getElem_toArray, List.getElem_cons_succ, List.getElem_cons_zero, List.setIfInBounds_toArray, List.set_cons_zero, List.set_cons_succ])
        refine wpGrA_take (i := 5) (undef) rfl (by kernel_rfl) (by kernel_rfl) (fun _ _ _ h => h) (yG_skip (by rfl)) ?_
        (try simp only [Act.put, List.getElem_toArray, List.getElem_cons_succ, List.getElem_cons_zero, List.setIfInBounds_toArray, List.set_cons_zero, List.set_cons_succ])
        refine wpGrA_take (i := 6) (.bool false) rfl (by kernel_rfl) (by kernel_rfl) (fun _ _ _ h => h) (yG_val _ (by rfl) (fun w' _ => by (go_simp; try rfl))) ?_
        (try simp only [Act.put, List.getElem_toArray, List.getElem_cons_succ, List.getElem_cons_zero, List.setIfInBounds_toArray, List.set_cons_zero, List.set_cons_succ])
        refine wpGrA_take (i := 7) (.bool false) rfl (by kernel_rfl) (by kernel_rfl) (fun _ _ _ h => h) (yG_val _ (by rfl) (fun w' _ => by (go_simp; try rfl))) ?_
        (try simp only [Act.put, List.getElem_toArray, List.getElem_cons_succ, List.getElem_cons_zero, List.setIfInBounds_toArray, List.set_cons_zero, List.set_cons_succ])
        refine wpGrA_take (i := 8) (.bool true) rfl (by kernel_rfl) (by kernel_rfl) (fun _ _ _ h => h) (yG_val _ (by rfl) (fun w' _ => by (go_simp; try rfl))) ?_
        (try simp only [Act.put, List.getElem_toArray, List.getElem_cons_succ, List.getElem_cons_zero, List.setIfInBounds_toArray, List.set_cons_zero, List.set_cons_succ])
        refine wpGrA_take (i := 9) (.bool true) rfl (by kernel_rfl) (by kernel_rfl) (fun _ _ _ h => h) (yG_val _ (by rfl) (fun w' _ => by (go_simp; try rfl))) ?_
        (try simp only [Act.put, List.getElem_toArray, List.getElem_cons_succ, List.getElem_cons_zero, List.setIfInBounds_toArray, List.set_cons_zero, List.set_cons_succ])
        refine wpGrA_take (i := 10) (.agg (lfV n.x la)) rfl (by kernel_rfl) (by kernel_rfl) (fun _ _ _ h => h) (yG_mid (by rfl) LfT (.tmp 6) rfl g (0) rfl (lfLL n.x la) _ HGW.out Try.underlying27 rfl infoLf) ?_
        (try simp only [Act.put, List.getElem_toArray, List.getElem_cons_succ, List.getElem_cons_zero, List.setIfInBounds_toArray, List.set_cons_zero, List.set_cons_succ])
        refine wpGrA_take (i := 11) (.slice (some ⟨b, o, none⟩) tn c) rfl (by kernel_rfl) (by kernel_rfl) (fun _ _ _ h => h) (yG_val _ (by rfl) (fun w' _ => by (go_simp; try rfl))) ?_
        (try simp only [Act.put, List.getElem_toArray, List.getElem_cons_succ, List.getElem_cons_zero, List.setIfInBounds_toArray, List.set_cons_zero, List.set_cons_succ])
        refine wpGrA_take (i := 12) (.int .i64 (i : Int)) rfl (by kernel_rfl) (by kernel_rfl) (fun _ _ _ h => h) (yG_val _ (by rfl) (fun w' _ => by (go_simp; try rfl))) ?_
        (try simp only [Act.put, List.getElem_toArray, List.getElem_cons_succ, List.getElem_cons_zero, List.setIfInBounds_toArray, List.set_cons_zero, List.set_cons_succ])
        refine wpGrA_take (i := 13) (.int .i64 (x : Int)) rfl (by kernel_rfl) (by kernel_rfl) (fun _ _ _ h => h) (yG_val _ (by rfl) (fun w' _ => by (go_simp; first | done | rfl | exact (IntWalk.i64_left _).trans hw2))) ?_
        (try simp only [Act.put, List.getElem_toArray, List.getElem_cons_succ, List.getElem_cons_zero, List.setIfInBounds_toArray, List.set_cons_zero, List.set_cons_succ])
        refine wpGrA_take (i := 14) (.pointer (some ⟨b, o + x * 10, none⟩)) rfl (by kernel_rfl) (by kernel_rfl) (fun _ _ _ h => h) (yG_val _ (by rfl) (fun w' _ => by (go_simp; try rfl))) ?_
        (try simp only [Act.put, List.getElem_toArray, List.getElem_cons_succ, List.getElem_cons_zero, List.setIfInBounds_toArray, List.set_cons_zero, List.set_cons_succ])
        refine wpGrA_take (i := 15) (.pointer (some ⟨b, o + x * 10 + 1, none⟩)) rfl (by kernel_rfl) (by kernel_rfl) (fun _ _ _ h => h) (yG_val _ (by rfl) (fun w' _ => by (go_simp; try rfl))) ?_
        (try simp only [Act.put, List.getElem_toArray, List.getElem_cons_succ, List.getElem_cons_zero, List.setIfInBounds_toArray, List.set_cons_zero, List.set_cons_succ])
        refine wpGrA_take (i := 16) (.agg (lfV n.x a.l)) rfl (by kernel_rfl) (by kernel_rfl) (fun _ _ _ h => h) (yG_mid (by rfl) LfT (.tmp 68) rfl b (o + x * 10 + 1) rfl (lfLL n.x a.l) _ HRW.out Try.underlying27 rfl infoLf) ?_
        (try simp only [Act.put, List.getElem_toArray, List.getElem_cons_succ, List.getElem_cons_zero, List.setIfInBounds_toArray, List.set_cons_zero, List.set_cons_succ])
        refine wpGrA_take (i := 17) (.bool true) rfl (by kernel_rfl) (by kernel_rfl) (fun _ _ _ h => h) (yG_call (by rfl) (fun w' => by go_simp) (fun w' hb => HSL.out w' hb)) ?_
        (try simp only [Act.put, List.getElem_toArray, List.getElem_cons_succ, List.getElem_cons_zero, List.setIfInBounds_toArray, List.set_cons_zero, List.set_cons_succ])
        refine wpGrA_take (i := 18) (.bool true) rfl (by kernel_rfl) (by kernel_rfl) (fun _ _ _ h => h) (yG_val _ (by rfl) (fun w' _ => by (go_simp; try rfl))) ?_
        (try simp only [Act.put, List.getElem_toArray, List.getElem_cons_succ, List.getElem_cons_zero, List.setIfInBounds_toArray, List.set_cons_zero, List.set_cons_succ])
        refine wpGrA_take (i := 19) (.bool true) rfl (by kernel_rfl) (by kernel_rfl) (fun _ _ _ h => h) (yG_val _ (by rfl) (fun w' _ => by (go_simp; try rfl))) ?_
        (try simp only [Act.put, List.getElem_toArray, List.getElem_cons_succ, List.getElem_cons_zero, List.setIfInBounds_toArray, List.set_cons_zero, List.set_cons_succ])
        refine wpGrA_end (by kernel_rfl) ?_
        intro w9 hb5
        simp only [List.drop_succ_cons, List.drop_zero]
        have HB9 := hid (HBK.out.trans (hb5.mono HBK.out.size))
        clear hb5
        go_wp2
        go_ret
        exact ⟨rfl, HB9.out⟩
      · have hmb' : mbB t z = false := by simpa using hmb
        rw [hmb'] at HLf HIs
        have hG : lfG t z = lf0 := by unfold lfG; rw [if_pos hrg, if_neg hmb]
        rw [hG] at HLf
        obtain ⟨LX, hLX⟩ : ∃ L, L = lf0 := ⟨_, rfl⟩
        rw [← hLX] at HLf
        have HLXE := hid hLX
        clear hLX
        obtain ⟨ML, hML⟩ : ∃ m, m = memR t := ⟨_, rfl⟩
        rw [← hML] at HMe HDM HML
        clear hs hr hm hrg hmb hmb' hK hG hA hML h40
        go_enter Try.func3, Try.ntmps3
        go_wp2_with fail
        refine (HAl.out w).mono ?_
        rintro e w1 ⟨rfl, hb⟩
        have HB1 := hid hb
        clear hb HAl
        go_wp2_with fail
        refine (HSm.out w1 HB1.out).mono ?_
        rintro e w2 ⟨rfl, hb⟩
        have HB2 := hid (HB1.out.trans (hb.mono HB1.out.size))
        clear hb HSm HB1
        go_wp2_with fail
        refine (HDo.out w2 HB2.out).mono ?_
        rintro e w3 ⟨rfl, hb⟩
        have HB3 := hid (HB2.out.trans (hb.mono HB2.out.size))
        clear hb HDo HB2
        go_wp2_with fail
        refine (HLf.out w3 HB3.out).mono ?_
        rintro e w4 ⟨la, rfl, hlf, hb⟩
        have HB4 := hid (HB3.out.trans (hb.mono HB3.out.size))
        obtain ⟨X, hX⟩ : ∃ X, X = w4.alloc (.cells (lfV LX la) LfT) := ⟨_, rfl⟩
        have hbX : Below w4.heap.size w4 X := by rw [hX]; exact (Below.refl _ _).alloc (Nat.le_refl _) _
        have HBX := hid (HB4.out.trans (hbX.mono HB4.out.size))
        have HLX := hid (hlf.on hbX)
        have KX : Hid (X.heap[w4.heap.size]? = some (.cells (lfV LX la) LfT (0, 0))) := hid (by rw [hX]; exact heap_alloc_new w4 _)
        have KA : Hid ((w4.alloc (.cells lfZ LfT)).heap[w4.heap.size]? = some (.cells lfZ LfT (0, 0))) := hid (heap_alloc_new w4 _)
        have hset : (w4.alloc (.cells lfZ LfT)).setRow w4.heap.size (lfV LX la) = X := by rw [hX]; exact setRow_alloc17 w4 lfZ (lfV LX la) LfT
        have HRX := hid (HRt.out X HBX.out)
        have HGX : Hid (∀ W, Below X.heap.size X W → W.rangeAt w4.heap.size 0 (lfLL LX la)) := hid fun W hb j v hj => by
          rw [Nat.zero_add]
          exact cell_of ((hb.block _ (block_lt KX.out)).trans KX.out) j v (by rw [← Array.getElem?_toList]; exact hj)
        clear hb hlf HLf HB3 hX hbX HB4
        obtain ⟨g, hg⟩ : ∃ g, g = w4.heap.size := ⟨_, rfl⟩
        go_wp2_with (with_reducible refine wpList_store_row rfl LfT (.tmp 6) _ rfl w4.heap.size (lfV LX la) rfl rfl LfT lfZ KA.out infoLf lfZ_size lfV_one ?_; rw [hset])
        rw [← hg] at HGX ⊢
        refine HRX.out.mono ?_
        rintro e w5 ⟨rfl, hb⟩
        have HB5 := hid (HBX.out.trans (hb.mono HBX.out.size))
        have HX5 := hid hb
        clear hb HRX HRt KX KA hset hg
        go_wp2_with fail
        refine (HMe.out w5 HB5.out).mono ?_
        rintro e w6 ⟨v, rfl, ho, hb⟩
        have HB6 := hid (HB5.out.trans (hb.mono HB5.out.size))
        have HX6 := hid (HX5.out.trans (hb.mono HX5.out.size))
        obtain ⟨MA, mc, rfl, hsl⟩ := own_sl ho
        have HM6 := hid hsl.lie
        clear ho hb hsl HMe HB5 HX5
        go_wp2_with fail
        refine (HDM.out w6 HB6.out).mono ?_
        rintro e w7 ⟨v, rfl, ho, hb⟩
        have HB7 := hid (HB6.out.trans (hb.mono HB6.out.size))
        have HX7 := hid (HX6.out.trans (hb.mono HX6.out.size))
        obtain ⟨DA, dc, rfl, hsl⟩ := own_sl ho
        have HSM := hid (same_l (c := mc) (c' := dc) (lie_on HM6.out hb) hsl.lie (by have := HML.out; omega) rfl)
        clear ho hb hsl HDM HB6 HX6 HM6
        go_wp2_with fail
        refine HSM.out.mono ?_
        rintro e w8 ⟨rfl, hb⟩
        have HB8 := hid (HB7.out.trans (hb.mono HB7.out.size))
        have HX8 := hid (HX7.out.trans (hb.mono HX7.out.size))
        clear hb HSM HB7 HX7
        go_wp2_with fail
        refine (HIs.out w8 HB8.out).mono ?_
        rintro e w9 ⟨rfl, hb⟩
        have HB9 := hid (HB8.out.trans (hb.mono HB8.out.size))
        have HX9 := hid (HX8.out.trans (hb.mono HX8.out.size))
        clear hb HIs HB8 HX8
        obtain rfl := HLXE.out
        have HSL : Hid (∀ W, Below w9.heap.size w9 W → Calls Try.prog 14 #[.agg (lfV lf0 la), .agg (lfV lf0 la0)] W (RetB W true)) := hid fun W hb => by
          have h := SameLeaf16_any lf0 lf0 la la0 W ((HLX.out.on HX9.out).on hb) (lf0_in W) (by unfold LfLe; decide)
          rw [sameLf_refl] at h
          exact h
        have HGW : Hid (∀ W, Below w9.heap.size w9 W → W.rangeAt g 0 (lfLL lf0 la)) := hid fun W hb => HGX.out W (HX9.out.trans (hb.mono HX9.out.size))
        have HBK := HB9
        go_upto_region 13 with fail
        refine wp_region_grA 20 (by kernel_rfl) (by decide) ?_
        refine wpGrA_take (i := 0) (.bool false) rfl (by kernel_rfl) (by kernel_rfl) (fun _ _ _ h => h) (yG_val _ (by rfl) (fun w' _ => by (go_simp; try rfl))) ?_
        (try simp only [Act.put, List.getElem_toArray, List.getElem_cons_succ, List.getElem_cons_zero, List.setIfInBounds_toArray, List.set_cons_zero, List.set_cons_succ])
        refine wpGrA_take (i := 1) (.bool true) rfl (by kernel_rfl) (by kernel_rfl) (fun _ _ _ h => h) (yG_val _ (by rfl) (fun w' _ => by (go_simp; try rfl))) ?_
        (try simp only [Act.put, List.getElem_toArray, List.getElem_cons_succ, List.getElem_cons_zero, List.setIfInBounds_toArray, List.set_cons_zero, List.set_cons_succ])
        refine wpGrA_take (i := 2) (.bool true) rfl (by kernel_rfl) (by kernel_rfl) (fun _ _ _ h => h) (yG_val _ (by rfl) (fun w' _ => by (go_simp; try rfl))) ?_
        (try simp only [Act.put, List.getElem_toArray, List.getElem_cons_succ, List.getElem_cons_zero, List.setIfInBounds_toArray, List.set_cons_zero, List.set_cons_succ])
        refine wpGrA_take (i := 3) (.agg (lfV lf0 la)) rfl (by kernel_rfl) (by kernel_rfl) (fun _ _ _ h => h) (yG_mid (by rfl) LfT (.tmp 6) rfl g (0) rfl (lfLL lf0 la) _ HGW.out Try.underlying27 rfl infoLf) ?_
        (try simp only [Act.put, List.getElem_toArray, List.getElem_cons_succ, List.getElem_cons_zero, List.setIfInBounds_toArray, List.set_cons_zero, List.set_cons_succ])
        refine wpGrA_take (i := 4) (.agg (lfV lf0 la0)) rfl (by kernel_rfl) (by kernel_rfl) (fun _ _ _ h => h) (yG_val _ (by rfl) (fun w' _ => by (have hbd := build_lf17 w'; go_simp; try rfl))) ?_
        (try simp only [Act.put, List.getElem_toArray, List.getElem_cons_succ, List.getElem_cons_zero, List.setIfInBounds_toArray, List.set_cons_zero, List.set_cons_succ])
        refine wpGrA_take (i := 5) (.bool true) rfl (by kernel_rfl) (by kernel_rfl) (fun _ _ _ h => h) (yG_call (by rfl) (fun w' => by go_simp) (fun w' hb => HSL.out w' hb)) ?_
        (try simp only [Act.put, List.getElem_toArray, List.getElem_cons_succ, List.getElem_cons_zero, List.setIfInBounds_toArray, List.set_cons_zero, List.set_cons_succ])
        refine wpGrA_take (i := 6) (.bool true) rfl (by kernel_rfl) (by kernel_rfl) (fun _ _ _ h => h) (yG_val _ (by rfl) (fun w' _ => by (go_simp; try rfl))) ?_
        (try simp only [Act.put, List.getElem_toArray, List.getElem_cons_succ, List.getElem_cons_zero, List.setIfInBounds_toArray, List.set_cons_zero, List.set_cons_succ])
        refine wpGrA_take (i := 7) (.bool true) rfl (by kernel_rfl) (by kernel_rfl) (fun _ _ _ h => h) (yG_val _ (by rfl) (fun w' _ => by (go_simp; try rfl))) ?_
        (try simp only [Act.put, List.getElem_toArray, List.getElem_cons_succ, List.getElem_cons_zero, List.setIfInBounds_toArray, List.set_cons_zero, List.set_cons_succ])
        refine wpGrA_take (i := 8) (undef) rfl (by kernel_rfl) (by kernel_rfl) (fun _ _ _ h => h) (yG_skip (by rfl)) ?_
        (try simp only [Act.put, List.getElem_toArray, List.getElem_cons_succ, List.getElem_cons_zero, List.setIfInBounds_toArray, List.set_cons_zero, List.set_cons_succ])
        refine wpGrA_take (i := 9) (undef) rfl (by kernel_rfl) (by kernel_rfl) (fun _ _ _ h => h) (yG_skip (by rfl)) ?_
        (try simp only [Act.put, List.getElem_toArray, List.getElem_cons_succ, List.getElem_cons_zero, List.setIfInBounds_toArray, List.set_cons_zero, List.set_cons_succ])
        refine wpGrA_take (i := 10) (undef) rfl (by kernel_rfl) (by kernel_rfl) (fun _ _ _ h => h) (yG_skip (by rfl)) ?_
        (try simp only [Act.put, List.getElem_toArray, List.getElem_cons_succ, List.getElem_cons_zero, List.setIfInBounds_toArray, List.set_cons_zero, List.set_cons_succ])
        refine wpGrA_take (i := 11) (undef) rfl (by kernel_rfl) (by kernel_rfl) (fun _ _ _ h => h) (yG_skip (by rfl)) ?_
        (try simp only [Act.put, List.getElem_toArray, List.getElem_cons_succ, List.getElem_cons_zero, List.setIfInBounds_toArray, List.set_cons_zero, List.set_cons_succ])
        refine wpGrA_take (i := 12) (undef) rfl (by kernel_rfl) (by kernel_rfl) (fun _ _ _ h => h) (yG_skip (by rfl)) ?_
        (try simp only [Act.put, List.getElem_toArray, List.getElem_cons_succ, List.getElem_cons_zero, List.setIfInBounds_toArray, List.set_cons_zero, List.set_cons_succ])
        refine wpGrA_take (i := 13) (undef) rfl (by kernel_rfl) (by kernel_rfl) (fun _ _ _ h => h) (yG_skip (by rfl)) ?_
        (try simp only [Act.put, List.getElem_toArray, List.getElem_cons_succ, List.getElem_cons_zero, List.setIfInBounds_toArray, List.set_cons_zero, List.set_cons_succ])
        refine wpGrA_take (i := 14) (undef) rfl (by kernel_rfl) (by kernel_rfl) (fun _ _ _ h => h) (yG_skip (by rfl)) ?_
        (try simp only [Act.put, List.getElem_toArray, List.getElem_cons_succ, List.getElem_cons_zero, List.setIfInBounds_toArray, List.set_cons_zero, List.set_cons_succ])
        refine wpGrA_take (i := 15) (undef) rfl (by kernel_rfl) (by kernel_rfl) (fun _ _ _ h => h) (yG_skip (by rfl)) ?_
        (try simp only [Act.put, List.getElem_toArray, List.getElem_cons_succ, List.getElem_cons_zero, List.setIfInBounds_toArray, List.set_cons_zero, List.set_cons_succ])
        refine wpGrA_take (i := 16) (undef) rfl (by kernel_rfl) (by kernel_rfl) (fun _ _ _ h => h) (yG_skip (by rfl)) ?_
        (try simp only [Act.put, List.getElem_toArray, List.getElem_cons_succ, List.getElem_cons_zero, List.setIfInBounds_toArray, List.set_cons_zero, List.set_cons_succ])
        refine wpGrA_take (i := 17) (undef) rfl (by kernel_rfl) (by kernel_rfl) (fun _ _ _ h => h) (yG_skip (by rfl)) ?_
        (try simp only [Act.put, List.getElem_toArray, List.getElem_cons_succ, List.getElem_cons_zero, List.setIfInBounds_toArray, List.set_cons_zero, List.set_cons_succ])
        refine wpGrA_take (i := 18) (undef) rfl (by kernel_rfl) (by kernel_rfl) (fun _ _ _ h => h) (yG_skip (by rfl)) ?_
        (try simp only [Act.put, List.getElem_toArray, List.getElem_cons_succ, List.getElem_cons_zero, List.setIfInBounds_toArray, List.set_cons_zero, List.set_cons_succ])
        refine wpGrA_take (i := 19) (.bool true) rfl (by kernel_rfl) (by kernel_rfl) (fun _ _ _ h => h) (yG_val _ (by rfl) (fun w' _ => by (go_simp; try rfl))) ?_
        (try simp only [Act.put, List.getElem_toArray, List.getElem_cons_succ, List.getElem_cons_zero, List.setIfInBounds_toArray, List.set_cons_zero, List.set_cons_succ])
        refine wpGrA_end (by kernel_rfl) ?_
        intro w9 hb5
        simp only [List.drop_succ_cons, List.drop_zero]
        have HB9 := hid (HBK.out.trans (hb5.mono HBK.out.size))
        clear hb5
        go_wp2
        go_ret
        exact ⟨rfl, HB9.out⟩
    · have hrg' : rgt t = false := by simpa using hrg
      rw [hrg'] at HRt HDo
      have hG : lfG t z = lf0 := by unfold lfG; rw [if_neg hrg]
      rw [hrg', Bool.false_and, hG] at HLf
      have hmem : memR t = [] := by unfold memR; rw [if_neg hrg]
      rw [hmem] at HMe
      obtain ⟨LX, hLX⟩ : ∃ L, L = lf0 := ⟨_, rfl⟩
      rw [← hLX] at HLf
      have HLXE := hid hLX
      clear hs hr hm hrg hrg' hG hA hmem h40 hLX
      go_enter Try.func3, Try.ntmps3
      go_wp2_with fail
      refine (HAl.out w).mono ?_
      rintro e w1 ⟨rfl, hb⟩
      have HB1 := hid hb
      clear hb HAl
      go_wp2_with fail
      refine (HSm.out w1 HB1.out).mono ?_
      rintro e w2 ⟨rfl, hb⟩
      have HB2 := hid (HB1.out.trans (hb.mono HB1.out.size))
      clear hb HSm HB1
      go_wp2_with fail
      refine (HDo.out w2 HB2.out).mono ?_
      rintro e w3 ⟨rfl, hb⟩
      have HB3 := hid (HB2.out.trans (hb.mono HB2.out.size))
      clear hb HDo HB2
      go_wp2_with fail
      refine (HLf.out w3 HB3.out).mono ?_
      rintro e w4 ⟨la, rfl, hlf, hb⟩
      have HB4 := hid (HB3.out.trans (hb.mono HB3.out.size))
      obtain ⟨X, hX⟩ : ∃ X, X = w4.alloc (.cells (lfV LX la) LfT) := ⟨_, rfl⟩
      have hbX : Below w4.heap.size w4 X := by rw [hX]; exact (Below.refl _ _).alloc (Nat.le_refl _) _
      have HBX := hid (HB4.out.trans (hbX.mono HB4.out.size))
      have HLX := hid (hlf.on hbX)
      have KX : Hid (X.heap[w4.heap.size]? = some (.cells (lfV LX la) LfT (0, 0))) := hid (by rw [hX]; exact heap_alloc_new w4 _)
      have KA : Hid ((w4.alloc (.cells lfZ LfT)).heap[w4.heap.size]? = some (.cells lfZ LfT (0, 0))) := hid (heap_alloc_new w4 _)
      have hset : (w4.alloc (.cells lfZ LfT)).setRow w4.heap.size (lfV LX la) = X := by rw [hX]; exact setRow_alloc17 w4 lfZ (lfV LX la) LfT
      have HRX := hid (HRt.out X HBX.out)
      have HGX : Hid (∀ W, Below X.heap.size X W → W.rangeAt w4.heap.size 0 (lfLL LX la)) := hid fun W hb j v hj => by
        rw [Nat.zero_add]
        exact cell_of ((hb.block _ (block_lt KX.out)).trans KX.out) j v (by rw [← Array.getElem?_toList]; exact hj)
      clear hb hlf HLf HB3 hX hbX HB4
      obtain ⟨g, hg⟩ : ∃ g, g = w4.heap.size := ⟨_, rfl⟩
      go_wp2_with (with_reducible refine wpList_store_row rfl LfT (.tmp 6) _ rfl w4.heap.size (lfV LX la) rfl rfl LfT lfZ KA.out infoLf lfZ_size lfV_one ?_; rw [hset])
      rw [← hg] at HGX ⊢
      refine HRX.out.mono ?_
      rintro e w5 ⟨rfl, hb⟩
      have HB5 := hid (HBX.out.trans (hb.mono HBX.out.size))
      have HX5 := hid hb
      clear hb HRX HRt KX KA hset hg
      go_wp2_with fail
      refine (HMe.out w5 HB5.out).mono ?_
      rintro e w6 ⟨v, rfl, ho, hb⟩
      have HB6 := hid (HB5.out.trans (hb.mono HB5.out.size))
      have HX6 := hid (HX5.out.trans (hb.mono HX5.out.size))
      obtain ⟨MA, mc, rfl, -⟩ := own_sl ho
      obtain rfl := HLXE.out
      have HSL := hid (SameLeaf16_any lf0 lf0 la la0 w6 (HLX.out.on HX6.out) (lf0_in w6) (by unfold LfLe; decide))
      rw [sameLf_refl] at HSL
      have HG6 := hid (HGX.out w6 HX6.out)
      have y0 := HG6.out 0 _ rfl; have y1 := HG6.out 1 _ rfl; have y2 := HG6.out 2 _ rfl; have y3 := HG6.out 3 _ rfl; have y4 := HG6.out 4 _ rfl; have y5 := HG6.out 5 _ rfl
      simp only [Nat.zero_add] at y0 y1 y2 y3 y4 y5
      have hbuild := build_lf17
      clear ho hb HMe HB5 HX5
      go_wp2_with fail
      refine HSL.out.mono ?_
      rintro e w7 ⟨rfl, hb⟩
      have HB7 := hid (HB6.out.trans (hb.mono HB6.out.size))
      clear hb HSL y0 y1 y2 y3 y4 y5
      go_wp2
      go_ret
      exact ⟨rfl, HB7.out⟩
  · rw [show smallT t = false by simpa using hs] at HSm
    clear hs hA hr
    go_enter Try.func3, Try.ntmps3
    go_wp2_with fail
    refine (HAl.out w).mono ?_
    rintro e w1 ⟨rfl, hb⟩
    have HB1 := hid hb
    clear hb HAl
    go_wp2_with fail
    refine (HSm.out w1 HB1.out).mono ?_
    rintro e w2 ⟨rfl, hb⟩
    have HB2 := hid (HB1.out.trans (hb.mono HB1.out.size))
    clear hb HSm HB1
    go_wp2
    go_ret
    exact ⟨rfl, HB2.out⟩
end Go.Proofs.Ythooibljnfnnhaa
end
