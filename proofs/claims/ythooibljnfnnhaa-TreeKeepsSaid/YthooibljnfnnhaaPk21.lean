/-
  Texts of this claim in one file: Law17a, Law17b, Law17c, Law17d.
-/
import Derived.Test.YthooibljnfnnhaaPk19
import Derived.Test.YthooibljnfnnhaaPk20
import Derived.Test.YthooibljnfnnhaaPk9
import Derived.Test.YthooibljnfnnhaaPk17
import Derived.Test.YthooibljnfnnhaaPk10
import Derived.Test.YthooibljnfnnhaaPk22
section
namespace Go.Proofs.Ythooibljnfnnhaa
open Go Go.RowKit
set_option linter.unusedVariables false
set_option linter.unusedSimpArgs false
theorem infoU8t : (Try.prog.info? 5).map (fun i => (i.zero, i.size, i.bytes)) = some (some (.int .u8 0), 1, 1) := by kernel_rfl
def z17 (n : Nat) : Array Value := madeCells #[.int .u8 0] n
theorem mkB17 (n : Nat) (hn : n ≤ 1000) (W : World) : (Instr.makeSlice 25 (.int .i64 (n : Int)) (.int .i64 (n : Int))).run Try.prog W = .ok (.slice (some ⟨W.heap.size, 0, none⟩) n n) (W.alloc (.cells (z17 n) 5)) := by
  obtain ⟨i, hi, hz, hsize, hby⟩ := info_parts infoU8t
  have h := run_make (P := Try.prog) W 25 5 i _ Try.underlying25 hi hz .i64 .i64 (n : Int) (n : Int) (by omega) (by omega) (by rw [hby]; omega) (by omega)
  rw [hsize, Int.toNat_natCast, show (Value.int .u8 0).cells = #[Value.int .u8 0] from rfl, Nat.mul_one] at h
  exact h
def zs (n : Nat) : List UInt8 := List.replicate n 0
theorem zs_lie {W : World} {p n : Nat} (h : W.heap[p]? = some (.cells (z17 n) 5 (0, 0))) : Lie W W.heap.size (some ⟨p, 0, none⟩) (bvs (zs n)) := fun _ =>
  ⟨p, 0, rfl, block_lt h, fun j u hu => by
    have hj : j < n := by have := (List.getElem?_eq_some_iff.1 hu).1; rw [bvs_length] at this; unfold zs at this; rw [List.length_replicate] at this; exact this
    rw [Nat.zero_add]
    refine cell_of h j u ?_
    rw [← hu]
    unfold z17 madeCells bvs zs
    rw [Array.getElem?_map, Array.getElem?_range, if_pos hj, List.getElem?_map, List.getElem?_replicate, if_pos hj]
    simp [Nat.mod_one]⟩
def oneL : Lf := ⟨zs 32, zs 32, [1], 1, [], zs 64⟩
def oneN : Nd := ⟨1, oneL, pr0⟩
theorem one_out (w W : World) (p1 p2 p3 p4 p5 : Nat) (h1 : W.heap[p1]? = some (.cells (z17 32) 5 (0, 0))) (h2 : W.heap[p2]? = some (.cells (z17 32) 5 (0, 0))) (h3 : W.heap[p3]? = some (.cells #[.int .u8 1] 5 (0, 0))) (h4 : W.heap[p4]? = some (.cells (z17 64) 5 (0, 0)))
    (h5 : W.heap[p5]? = some (.cells #[.int .u8 1, .slice (some ⟨p1, 0, none⟩) 32 32, .slice (some ⟨p2, 0, none⟩) 32 32, .slice (some ⟨p3, 0, none⟩) 1 1, .int .u8 1, .slice none 0 0, .slice (some ⟨p4, 0, none⟩) 64 64, .slice none 0 0, .slice none 0 0, .slice none 0 0] NdT (0, 0))) : TrA w [oneN] (some ⟨p5, 0, none⟩) 1 W := by
  refine ⟨[⟨⟨some ⟨p1, 0, none⟩, some ⟨p2, 0, none⟩, some ⟨p3, 0, none⟩, none, some ⟨p4, 0, none⟩, 32, 32, 1, 0, 64⟩, pa0⟩], ⟨rfl, fun _ => ⟨p5, 0, rfl, block_lt h5, fun j u hu => ?_⟩, fun j n a hn ha => ?_⟩, ⟨Nat.le_refl _, by decide⟩, fun j n a hn ha => ?_⟩
  · rw [Nat.zero_add]
    refine cell_of h5 j u ?_
    rw [← hu]
    have hj : j < 10 := (List.getElem?_eq_some_iff.1 hu).1
    rcases j with _ | _ | _ | _ | _ | _ | _ | _ | _ | _ | j
    all_goals first | rfl | omega
  · rcases j with _ | j
    · cases hn; cases ha
      refine ⟨⟨zs_lie h1, zs_lie h2, fun _ => ⟨p3, 0, rfl, block_lt h3, fun j u hu => ?_⟩, Lie.nil, zs_lie h4⟩, Lie.nil, Lie.nil, Lie.nil⟩
      rw [Nat.zero_add]
      refine cell_of h3 j u ?_
      rw [← hu]
      rcases j with _ | j
      · rfl
      · rfl
    · cases hn
  · rcases j with _ | j
    · cases hn; cases ha
      exact ⟨Nat.zero_le _, (show (0 : Nat) ≤ 9223372036854775807 by decide)⟩
    · cases hn
theorem wpOp_run17 {P : Program} {ops : Array Oper} {Q : Exit → Act → World → Prop} {i : Nat} {o : Oper} {K : Act → World → Prop} {a : Act} {w w' : World} {v : Value} (hi : ops[i]? = some o) (hg : o.guard = none) (hz : (execOp a.eval o).run P w = .ok (.value v) w') (h : K (a.put o.dst v) w') : wpOp P ops Q i K a w := by
  unfold wpOp
  simp only [hi]
  rw [if_pos (by simp [Region.wanted, hg])]
  unfold Oper.wp
  rw [hz]
  exact .inl h
def oV (i p : Nat) : Value := .slice (some ⟨p, 0, none⟩) (match i with | 0 => 32 | 1 => 32 | 2 => 1 | _ => 64) (match i with | 0 => 32 | 1 => 32 | 2 => 1 | _ => 64)
def oO (i : Nat) : Obj := match i with | 0 => .cells (z17 32) 5 | 1 => .cells (z17 32) 5 | 2 => .cells #[.int .u8 1] 5 | _ => .cells (z17 64) 5
def oF (f : Option Nat) (n : Nat) : Value := match f with | none => undef | some p => .slice (some ⟨p, 0, none⟩) n n
def oFr (f0 f1 f2 f3 : Option Nat) : Act := { tmps := #[.slice none 0 0, oF f0 32, oF f1 32, oF f2 1, oF f3 64, undef, undef, undef], defers := [] }
set_option maxRecDepth 100000 in
set_option maxHeartbeats 8000000 in
theorem one_e (w : World) : Calls Try.prog 30 #[] w fun e w' => ∃ A, e = .returned (.slice A 1 1) ∧ TrA w [oneN] A 1 w' ∧ Below w.heap.size w w' := by
  have h32 : ∀ W : World, (Instr.makeSlice 25 (.int .i64 32) (.int .i64 32)).run Try.prog W = .ok (.slice (some ⟨W.heap.size, 0, none⟩) 32 32) (W.alloc (.cells (z17 32) 5)) := mkB17 32 (by decide)
  have h64 : ∀ W : World, (Instr.makeSlice 25 (.int .i64 64) (.int .i64 64)).run Try.prog W = .ok (.slice (some ⟨W.heap.size, 0, none⟩) 64 64) (W.alloc (.cells (z17 64) 5)) := mkB17 64 (by decide)
  go_enter Try.func30, Try.ntmps30
  go_upto_region 1 with fail
  refine wp_region_gr 4 (by kernel_rfl) (by decide) fun w1 hb1 => ?_
  refine wpGr_mk4 oO oV (fun i => some (i + 1)) (fun b0 b1 b2 b3 => #[b0, b1, b2, b3, false, false, false, false]) oFr w1 (by decide) ?mk ?rd ?_ ?_ ?_ ?_ ?_ ?_ ?_ ?_ ?fin 4 none none none none w1 rfl (Below.refl _ _) (fun p h => by cases h) (fun p h => by cases h) (fun p h => by cases h) (fun p h => by cases h)
  case rd => decide +kernel
  case mk =>
    intro i a W K hi hK
    rcases i with _ | _ | _ | _ | i
    · exact wpOp_run17 (v := .slice (some ⟨W.heap.size, 0, none⟩) 32 32) (w' := W.alloc (.cells (z17 32) 5)) rfl rfl (by have h := h32 W; (go_simp; try rfl)) hK
    · exact wpOp_run17 (v := .slice (some ⟨W.heap.size, 0, none⟩) 32 32) (w' := W.alloc (.cells (z17 32) 5)) rfl rfl (by have h := h32 W; (go_simp; try rfl)) hK
    · exact wpOp_sliceTo1 rfl rfl 25 5 1 #[(0, .const (.int .u8 1))] rfl Try.underlying25 #[.int .u8 1] (by kernel_rfl) hK
    · exact wpOp_run17 (v := .slice (some ⟨W.heap.size, 0, none⟩) 64 64) (w' := W.alloc (.cells (z17 64) 5)) rfl rfl (by have h := h64 W; (go_simp; try rfl)) hK
    · omega
  case fin =>
    intro p0 p1 p2 p3 W hb h0 h1 h2 h3
    have HB := hid (hb1.trans (hb.mono hb1.size))
    have H0 := hid h0; have H1 := hid h1; have H2 := hid h2; have H3 := hid h3
    clear hb hb1 h0 h1 h2 h3 h32 h64
    refine ⟨by kernel_rfl, ?_⟩
    simp only [List.drop_succ_cons, List.drop_zero, oFr, oF]
    go_wp2
    go_ret
    refine ⟨_, rfl, one_out w _ p0 p1 p2 p3 W.heap.size ?_ ?_ ?_ ?_ (heap_alloc_new W _), HB.out.alloc HB.out.size _⟩
    · exact (Below.heap_alloc _ _ _ (block_lt H0.out)).trans H0.out
    · exact (Below.heap_alloc _ _ _ (block_lt H1.out)).trans H1.out
    · exact (Below.heap_alloc _ _ _ (block_lt H2.out)).trans H2.out
    · exact (Below.heap_alloc _ _ _ (block_lt H3.out)).trans H3.out
  all_goals (intros; rfl)
end Go.Proofs.Ythooibljnfnnhaa
end
section
namespace Go.Proofs.Ythooibljnfnnhaa
open Go Go.RowKit
set_option linter.unusedVariables false
set_option linter.unusedSimpArgs false
theorem one_lf : leafB oneL = true := by decide
theorem one_rt : Rt [oneN] 0 := by
  have h0 : ∀ x, x < [oneN].length → x = 0 := fun x hx => by simpa using hx
  refine ⟨⟨rfl, by decide⟩, fun x hx => ?_, fun x hx he => ?_, fun x hx ho => ?_, ⟨0, by decide, rfl, .inl rfl⟩, fun x hx l hl => ?_⟩
  · rw [h0 x hx]; exact (show rightB 1 oneL pr0 = true by decide)
  · rw [h0 x hx]; exact (show (1 : Nat) ≠ 2 by decide)
  · have := h0 x hx; omega
  · rw [h0 x hx] at hl; cases hl
theorem one_m : TrM [oneN] := ⟨by decide, fun j n hn => by
  rcases j with _ | j
  · cases hn
    exact ⟨by show LfM oneL; unfold LfM; decide, by show PrM pr0; unfold PrM; decide, (show (1 : Nat) < 256 by decide), fun v hv => by cases hv⟩
  · cases hn⟩
theorem one_200 : Lf200 oneL := by unfold Lf200; decide
theorem one_mem : memR [oneN] = [0] := by unfold memR; rw [if_pos (rgt_yes one_rt)]; decide
theorem one_fil : filR [oneN] 0 = [] := by
  have h := filR_yes (i := 0) one_rt (by decide)
  exact h
theorem one_kT : kT [oneN] = 0 := kT_is one_rt.size
theorem one_I : addI [oneN] 0 = 1 := by decide
theorem one_G : addG [oneN] oneL = true := by unfold addG; rw [rgt_yes one_rt, one_lf, one_kT, one_I]; decide
theorem one_addE : addE [oneN] oneL = 0 := by unfold addE; rw [if_pos (rgt_yes one_rt), if_pos one_lf, one_kT, one_I]; decide
theorem one_addP : addP [oneN] oneL = 1 := by unfold addP; rw [if_pos one_G, one_kT, one_I]
theorem one_addR : addR [oneN] oneL = addU [oneN] 0 oneL := by unfold addR; rw [if_pos one_G, one_kT]
theorem one_len : (addU [oneN] 0 oneL).length = 3 := by unfold addU; rw [addT_length]; decide
theorem one_leaf2 : (nAt (addU [oneN] 0 oneL) 2).k = 1 := by
  have h := (addU_leaf (l := oneL) one_rt (by rw [one_I]; decide)).1
  rw [one_I] at h
  rw [h]
theorem nil_no : rgt [] = false := rgt_no fun K h => by have := h.size.1; have := Nat.two_pow_pos K; simp at *; omega
theorem nil_q (w : World) (B : Nat) : TrQ w B none 0 [] [] := ⟨TrIn.nil _ _ _, ⟨Nat.le_refl _, by decide⟩, fun j n a h => by cases h⟩
theorem nil_m : TrM [] := ⟨by decide, fun j n h => by cases h⟩
abbrev lfLL (x : Lf) (a : LA) : List Value := [.slice a.a0 x.box.length a.c0, .slice a.a1 x.sign.length a.c1, .slice a.a2 x.ident.length a.c2, .int .u8 (x.src : Int), .slice a.a3 x.par.length a.c3, .slice a.a4 x.sig.length a.c4]
theorem lf_ll {w : World} {b o : Nat} {n : Nd} {a : NA} (h : w.rangeAt b o (ndL n a)) : w.rangeAt b (o + 1) (lfLL n.x a.l) := lf_range h
def Alive17 : Prop := ∀ W : World, Calls Try.prog 8 #[] W (RetB W true)
set_option maxRecDepth 100000 in
set_option maxHeartbeats 8000000 in
theorem alive17 : Alive17 := fun w => by
  have HOne := hid (one_e w)
  go_enter Try.func8, Try.ntmps8
  go_wp2_with fail
  refine HOne.out.mono ?_
  rintro e w1 ⟨A, rfl, ⟨ad, hq⟩, hb⟩
  have HB1 := hid hb; have HQ := hid hq
  obtain ⟨b, o, n, a, rfl, hbl, hn, ha, -, hni, hr⟩ := hq.tr.at2 (j := 0) (by decide)
  rw [Nat.zero_mul, Nat.add_zero] at hr
  have hn1 : n = oneN := (Option.some.inj hn).symm
  subst hn1
  have HR : Hid (w1.rangeAt b (o + 1) (lfLL oneL a.l)) := hid (lf_ll hr)
  have HAd := hid (tree_add (some ⟨b, o, none⟩) [oneN] ad 1 oneL a.l w1 hq one_m hni.1 one_200)
  rw [one_addE, one_addP, one_addR, one_len, show [oneN].length = 1 from rfl] at HAd
  clear hb hq hr hni ha hn hbl HOne
  go_wp2_with (with_reducible refine wpList_load_mid rfl LfT (.tmp 10) rfl b (o + 1) rfl (lfLL oneL a.l) _ HR.out Try.underlying27 rfl infoLf ?_)
  refine HAd.out.mono ?_
  rintro e w2 ⟨A2, c2, rfl, ⟨ad2, hq2⟩, hb⟩
  have HB2 := hid (HB1.out.trans (hb.mono HB1.out.size))
  have HQ2 := hid (HQ.out.up hb)
  have HU2 := hid hq2
  have HMe := hid (tree_members (some ⟨b, o, none⟩) [oneN] ad 1 w2 HQ2.out one_m)
  rw [one_mem] at HMe
  clear hb hq2 HAd HR HB1 HQ
  go_wp2_with fail
  refine HMe.out.mono ?_
  rintro e w3 ⟨v, rfl, ho, hb⟩
  have HB3 := hid (HB2.out.trans (hb.mono HB2.out.size))
  have HQ3 := hid (HQ2.out.up hb); have HU3 := hid (HU2.out.up hb)
  obtain ⟨MA, mc, rfl, hs⟩ := own_sl ho
  have HSm : Hid (Calls Try.prog 15 #[.slice MA 1 mc, .slice (some ⟨w3.heap.size, 0, none⟩) 1 1] (w3.alloc (.cells #[.int .i64 0] 3)) (RetB (w3.alloc (.cells #[.int .i64 0] 3)) true)) := hid (by
    have h := Same14_any MA [0] mc (some ⟨w3.heap.size, 0, none⟩) [0] 1 (w3.alloc (.cells #[.int .i64 0] 3)) w3.heap.size (w3.heap.size + 1) (hs.lie.alloc (Nat.le_refl _) _) (Lie.new1 w3 (.int .i64 0) 3) (by decide)
    refine h.mono fun e w' h' => ?_
    first | exact h' | exact ⟨h'.1, by rw [h'.2]; exact Below.refl _ _⟩ | (obtain ⟨h1, q, h2⟩ := h'; exact ⟨h1, by rw [h2]; exact below_dn _ _ _⟩))
  have HA3 : Hid (Below w3.heap.size w3 (w3.alloc (.cells #[.int .i64 0] 3))) := hid ((Below.refl _ _).alloc (Nat.le_refl _) _)
  clear ho hb hs HMe HB2 HQ2 HU2
  go_wp2_with fail
  refine HSm.out.mono ?_
  rintro e w4 ⟨rfl, hb⟩
  have hb34 := HA3.out.trans (hb.mono HA3.out.size)
  have HB4 := hid (HB3.out.trans (hb34.mono HB3.out.size))
  have HQ4 := hid (HQ3.out.up hb34); have HU4 := hid (HU3.out.up hb34)
  have HFi := hid (tree_filtered (some ⟨b, o, none⟩) [oneN] ad 1 0 w4 HQ4.out one_m)
  rw [one_fil] at HFi
  clear hb hb34 HSm HA3 HB3 HQ3 HU3
  go_wp2_with fail
  refine HFi.out.mono ?_
  rintro e w5 ⟨v, rfl, ho, hb⟩
  have HB5 := hid (HB4.out.trans (hb.mono HB4.out.size))
  have HU5 := hid (HU4.out.up hb)
  obtain ⟨FA, fc, rfl, -⟩ := own_sl ho
  have hl3 : 2 < (addU [oneN] 0 oneL).length := by rw [one_len]; decide
  obtain ⟨b2, o2, n2, a2, rfl, hbl2, -, hnt2, -, hr2⟩ := HU5.out.tr.at_ hl3
  have hkc := kind_at hr2
  have hk1 : n2.k = 1 := by rw [hnt2]; exact one_leaf2
  rw [hk1] at hkc
  have HRn := hid (tree_right none [] [] 0 w5 (nil_q _ _) nil_m)
  rw [nil_no] at HRn
  clear ho hb hl3 hbl2 hnt2 hr2 hk1 HFi HB4 HQ4 HU4 HU5
  go_wp2_with fail
  refine HRn.out.mono ?_
  rintro e w6 ⟨rfl, hb⟩
  have HB6 := hid (HB5.out.trans (hb.mono HB5.out.size))
  clear hb HRn HB5 hkc
  go_wp2
  go_ret
  exact ⟨rfl, HB6.out⟩
end Go.Proofs.Ythooibljnfnnhaa
end
section
namespace Go.Proofs.Ythooibljnfnnhaa
open Go Go.RowKit
set_option linter.unusedVariables false
set_option linter.unusedSimpArgs false
/-- What any argument's nodes bear. -/
def Rng (t : List Nd) : Prop := ∀ (j : Nat) (n : Nd), t[j]? = some n → n.k < 256 ∧ n.x.src < 256 ∧ Late64 n.u
theorem small_m {t : List Nd} (h : smallT t = true) (hr : Rng t) : TrM t := by
  obtain ⟨h1, h2⟩ := smallT_iff.1 h
  refine ⟨by omega, fun j n hn => ?_⟩
  obtain ⟨hj, he⟩ := List.getElem?_eq_some_iff.1 hn
  obtain ⟨r1, r2, r3⟩ := hr j n hn
  have h3 := h2 j hj
  rw [he] at h3
  obtain ⟨s1, s2, -, -⟩ := small_le h3 r2
  exact ⟨lf200_m s1, pr200_m s2, r1, r3⟩
theorem wrap_1e {z : Int} (h1 : -2000000000000000000 ≤ z) (h2 : z ≤ 2000000000000000000) : wrap64 z = z := by unfold wrap64; omega
end Go.Proofs.Ythooibljnfnnhaa
end
section
namespace Go.Proofs.Ythooibljnfnnhaa
open Go Go.RowKit
set_option linter.unusedVariables false
set_option linter.unusedSimpArgs false
theorem setRow_alloc17 (w : World) (cs ds : Array Value) (T : TypeId) : (w.alloc (.cells cs T)).setRow w.heap.size ds = w.alloc (.cells ds T) := by
  unfold World.setRow World.alloc
  simp only [World.mk.injEq, true_and, and_true]
  refine Array.ext_getElem? fun i => ?_
  rw [Array.getElem?_modify, Array.getElem?_push, Array.getElem?_push]
  by_cases h : w.heap.size = i
  · subst h; simp
  · rw [if_neg h, if_neg (fun e => h e.symm), if_neg (fun e => h e.symm)]
/-- Any row of nodes, and its lists of members told the same way. -/
theorem same_l {A A' : Option Addr} {xs ys : List Nat} {c c' : Nat} {W : World} {B B' : Nat} (h : Lie W B A (ivs xs)) (h' : Lie W B' A' (ivs ys)) (hl : xs.length ≤ 1000000) (he : xs = ys) : Calls Try.prog 15 #[.slice A xs.length c, .slice A' ys.length c'] W (RetB W true) := by
  have h := Same14_any A xs c A' ys c' W B B' h h' (by omega)
  refine h.mono fun e w' h' => ?_
  have hq : (xs == ys) = true := by rw [beq_iff_eq]; exact he
  first
    | (obtain ⟨h1, q, h2⟩ := h'; exact ⟨by rw [h1, hq], by rw [h2]; exact below_dn _ _ _⟩)
    | exact ⟨by rw [h'.1, hq], by rw [h'.2]; exact Below.refl _ _⟩
set_option maxRecDepth 100000 in
set_option maxHeartbeats 16000000 in
theorem treeKeeps_any (A : Option Addr) (t : List Nd) (ad : List NA) (c : Nat) (l : Lf) (la : LA) (z : Int) (w : World) (hA : TrQ w w.heap.size A c t ad) (hr : Rng t) (hx : LfIn w l la) (hs : l.src < 256) : Calls Try.prog 5 #[.slice A t.length c, .agg (lfV l la), .int .i64 z] w (RetB w true) := by
  have HAl := hid alive17
  have K0 := hid (heap_alloc_new w (.cells (lfV l la) LfT))
  have HB0 : Hid (Below w.heap.size w (w.alloc (.cells (lfV l la) LfT))) := hid ((Below.refl _ _).alloc (Nat.le_refl _) _)
  obtain ⟨W0, hW0⟩ : ∃ W, W = w.alloc (.cells (lfV l la) LfT) := ⟨_, rfl⟩
  have HE : Hid (w.alloc (.cells #[.slice la.a0 l.box.length la.c0, .slice la.a1 l.sign.length la.c1, .slice la.a2 l.ident.length la.c2, .int .u8 (l.src : Int), .slice la.a3 l.par.length la.c3, .slice la.a4 l.sig.length la.c4] LfT) = W0) := hid hW0.symm
  rw [← hW0] at HB0 K0
  have HY : Hid (∀ W, Below W0.heap.size W0 W → W.cell? ⟨w.heap.size, 0, none⟩ = some (.slice la.a0 l.box.length la.c0) ∧ W.cell? ⟨w.heap.size, 1, none⟩ = some (.slice la.a1 l.sign.length la.c1) ∧ W.cell? ⟨w.heap.size, 2, none⟩ = some (.slice la.a2 l.ident.length la.c2) ∧ W.cell? ⟨w.heap.size, 3, none⟩ = some (.int .u8 (l.src : Int)) ∧ W.cell? ⟨w.heap.size, 4, none⟩ = some (.slice la.a3 l.par.length la.c3) ∧ W.cell? ⟨w.heap.size, 5, none⟩ = some (.slice la.a4 l.sig.length la.c4)) := hid fun W hb => by
    have K := (hb.block _ (block_lt K0.out)).trans K0.out
    exact ⟨cell_of K 0 _ rfl, cell_of K 1 _ rfl, cell_of K 2 _ rfl, cell_of K 3 _ rfl, cell_of K 4 _ rfl, cell_of K 5 _ rfl⟩
  have hA0 := hA.up HB0.out
  have hx0 := hx.on HB0.out
  have HSm : Hid (∀ W, Below W0.heap.size W0 W → Calls Try.prog 9 #[.slice A t.length c] W (RetB W (smallT t))) := hid fun W hb => Small17_any A t ad c W (hA0.tr.up hb)
  have HSl : Hid (∀ W, Calls Try.prog 18 #[.agg (lfV l la)] W (RetB W (smallL l))) := hid fun W => SmallLeaf17_any l la W
  have HRl : Hid (∀ W, Calls Try.prog 20 #[.agg (lfV l la)] W (RetB W (leafB l))) := hid fun W => RightLeaf16_any l la W hs
  by_cases hs : smallT t = true
  · rw [hs] at HSm
    have hm := small_m hs hr
    have HRt : Hid (∀ W, Below W0.heap.size W0 W → Calls Try.prog 12 #[.slice A t.length c] W (RetB W (rgt t))) := hid fun W hb => tree_right A t ad c W (hA0.up hb) hm
    by_cases hsl : smallL l = true
    · rw [hsl] at HSl
      by_cases hrg : rgt t = true
      · rw [hrg] at HRt
        by_cases hlb : leafB l = true
        · rw [hlb] at HRl
          obtain ⟨h200, -, hle, -⟩ := small_le hsl (by assumption)
          obtain ⟨K, hK⟩ := rgt_rt hrg
          have h40 := (smallT_iff.1 hs).1
          have hi : addI t K < 65536 := by
            have := firstB_le t (2 ^ K)
            have := hK.size.1
            have : addI t K ≤ 2 ^ K := firstB_le t (2 ^ K)
            omega
          obtain ⟨a1, a2, a3⟩ := kp_add hK hm hlb h200 hi
          obtain ⟨b1, b2, b3, b4, b5⟩ := kp_in hK hlb hi
          obtain ⟨c1, c2, c3, c4, c5⟩ := kp_rem hK hm hlb h200 hi
          have HUr := hid (rgt_yes (addU_right hK hlb hi))
          have HUm := hid (addU_m hK hm hlb h200 hi)
          have HAdd : Hid (∀ W, Below W0.heap.size W0 W → Calls Try.prog 19 #[.slice A t.length c, .agg (lfV l la)] W fun e w' => ∃ A' c', e = .returned (.tuple #[.slice A' (addU t K l).length c', .int .i64 (addI t K : Int), .int .u8 0]) ∧ TrA W (addU t K l) A' c' w' ∧ Below W.heap.size W w') := hid fun W hb => by
            have h := tree_add A t ad c l la W (hA0.up hb) hm (hx0.on hb) h200
            rw [a1, a2, a3] at h
            exact h
          have HUp : Hid (isT t z = true → ∀ W, Below W0.heap.size W0 W → Calls Try.prog 25 #[.slice A t.length c, .int .i64 z, .agg (lfV l la)] W fun e w' => ∃ A' c', e = .returned (.tuple #[.slice A' t.length c', .int .u8 0]) ∧ (∃ u, rgt u = true ∧ TrM u ∧ memR u = memR t ∧ u.length = t.length ∧ TrA W u A' c' w') ∧ Below W.heap.size W w') := hid fun hz W hb => by
            obtain ⟨u1, u2, u3, u4, u5⟩ := kp_upd hK hm hlb h200 hz
            refine (tree_update A t ad c z l la W (hA0.up hb) hm (hx0.on hb) h200).mono fun e w' h => ?_
            obtain ⟨A', c', he, h1, h2⟩ := h
            rw [u1, u5] at he
            exact ⟨A', c', he, ⟨_, u2, u3, u4, u5, h1⟩, h2⟩
          have HLeaf : Hid (∀ A' c' adU W, TrQ W W.heap.size A' c' (addU t K l) adU → Calls Try.prog 11 #[.slice A' (addU t K l).length c', .int .i64 (addI t K : Int)] W fun e w' => ∃ lb, e = .returned (.tuple #[.agg (lfV l lb), .bool true]) ∧ LfIn w' l lb ∧ Below W.heap.size W w') := hid fun A' c' adU W h => by
            have h := tree_leaf A' (addU t K l) adU c' (addI t K : Int) W h HUm.out
            have e : lfG (addU t K l) (addI t K : Int) = l := by unfold lfG; rw [if_pos HUr.out, if_pos b4, Int.toNat_natCast, b5]
            rw [e, HUr.out, b4] at h
            exact h
          have HRem : Hid (∀ A' c' adU W, TrQ W W.heap.size A' c' (addU t K l) adU → Calls Try.prog 24 #[.slice A' (addU t K l).length c', .int .i64 (addI t K : Int)] W fun e w' => ∃ A' c', e = .returned (.tuple #[.slice A' (remR (addU t K l) (addI t K : Int)).length c', .int .u8 0]) ∧ TrA W (remR (addU t K l) (addI t K : Int)) A' c' w' ∧ Below W.heap.size W w') := hid fun A' c' adU W h => by
            have h := tree_remove A' (addU t K l) adU c' (addI t K : Int) W h HUm.out
            rw [c1] at h
            exact h
          have HMe : Hid (∀ (u : List Nd) A' c' adU W, TrQ W W.heap.size A' c' u adU → TrM u → Calls Try.prog 13 #[.slice A' u.length c'] W (OwnLn W (memR u))) := hid fun u A' c' adU W h h2 => tree_members A' u adU c' W h h2
          have HRi : Hid (∀ (u : List Nd) A' c' adU W, TrQ W W.heap.size A' c' u adU → TrM u → rgt u = true → Calls Try.prog 12 #[.slice A' u.length c'] W (RetB W true)) := hid fun u A' c' adU W h h2 h3 => by
            have h := tree_right A' u adU c' W h h2
            rw [h3] at h
            exact h
          have HIs : Hid (∀ (z : Int) W, Below W0.heap.size W0 W → Calls Try.prog 17 #[.slice A t.length c, .int .i64 z] W (RetB W (isT t z))) := hid fun z W hb => Is17_any A t ad c z W (hA0.tr.up hb) (by omega)
          have HCo : Hid (∀ W, Below W0.heap.size W0 W → Calls Try.prog 23 #[.slice A t.length c] W fun e w' => ∃ g, e = .returned (.slice (some ⟨g, 0, none⟩) t.length t.length) ∧ (∃ ad', MT w' W.heap.size g t.length t ad') ∧ Below W.heap.size W w') := hid fun W hb => copy_e A t ad c W (hA0.tr.up hb) hm
          have HSa : Hid (∀ W A' ad' c', Below W0.heap.size W0 W → TrQ W W.heap.size A' c' t ad' → Calls Try.prog 26 #[.slice A t.length c, .slice A' t.length c'] W (RetB W true)) := hid fun W A' ad' c' hb h => by
            have h := tree_same A t ad c A' t ad' c' W (hA0.up hb).tr h.tr hm hm
            rw [sameT_refl] at h
            exact h
          have HSL : Hid (∀ W lb, Below W0.heap.size W0 W → LfIn W l lb → Calls Try.prog 14 #[.agg (lfV l lb), .agg (lfV l la)] W (RetB W true)) := hid fun W lb hb h => by
            have h := SameLeaf16_any l l lb la W h (hx0.on hb) hle
            rw [sameLf_refl] at h
            exact h
          have HQ := hid hA0
          have HML : Hid ((memR t).length ≤ 65536) := hid (by rw [memR_of hK]; exact Nat.le_trans (memT_len _ _) (pow_le16 hK.size.2))
          have HM := hid hm
          have HISF := HIs.out (addI t K : Int)
          rw [b3] at HISF
          have HIF := hid HISF
          have HU2 := hid b2; have HC2 := hid c2; have HC3 := hid c3; have HC4 := hid c4
          obtain ⟨U, hU⟩ : ∃ U, U = addU t K l := ⟨_, rfl⟩
          obtain ⟨i, hii⟩ : ∃ i, i = addI t K := ⟨_, rfl⟩
          obtain ⟨V, hV⟩ : ∃ V, V = remR (addU t K l) (addI t K : Int) := ⟨_, rfl⟩
          rw [← hV] at HRem HC2 HC3 HC4 c5
          rw [← hii] at HAdd HLeaf HRem HIF
          rw [← hU] at HAdd HLeaf HRem HU2 HUr HUm c5
          have HVL : Hid (V.length ≤ U.length) := hid c5
          have HUL : Hid (U.length ≤ 1000000) := hid (by have := HUm.out.1; omega)
          obtain ⟨ML, hML⟩ : ∃ m, m = memR t := ⟨_, rfl⟩
          rw [← hML] at HU2 HML HC4
          rw [← hML] at HUp
          have HMeT : Hid (∀ W, Below W0.heap.size W0 W → Calls Try.prog 13 #[.slice A t.length c] W (OwnLn W ML)) := hid fun W hb => by
            rw [hML]; exact HMe.out t A c ad W (HQ.out.up hb) HM.out
          clear hA hr hx hs hm hsl hrg hlb h200 hle hK h40 hi a1 a2 a3 b1 b2 b3 b4 b5 c1 c2 c3 c4 c5 HISF hU hii hV hML hW0 K0 hA0 hx0
          go_enter Try.func5, Try.ntmps5
          go_upto_region 1 with fail
          rw [HE.out]
          go_wp2_with fail
          refine (HAl.out W0).mono ?_
          rintro e w1 ⟨rfl, hb⟩
          have HB1 := hid hb
          clear hb HAl
          go_wp2_with fail
          refine (HSm.out w1 HB1.out).mono ?_
          rintro e w2 ⟨rfl, hb⟩
          have HB2 := hid (HB1.out.trans (hb.mono HB1.out.size))
          clear hb HSm HB1
          obtain ⟨y0, y1, y2, y3, y4, y5⟩ := HY.out w2 HB2.out
          go_wp2_with fail
          clear y0 y1 y2 y3 y4 y5
          refine (HSl.out w2).mono ?_
          rintro e w3 ⟨rfl, hb⟩
          have HB3 := hid (HB2.out.trans (hb.mono HB2.out.size))
          clear hb HSl HB2
          go_wp2_with fail
          refine (HRt.out w3 HB3.out).mono ?_
          rintro e w4 ⟨rfl, hb⟩
          have HB4 := hid (HB3.out.trans (hb.mono HB3.out.size))
          clear hb HRt HB3
          obtain ⟨y0, y1, y2, y3, y4, y5⟩ := HY.out w4 HB4.out
          go_wp2_with fail
          clear y0 y1 y2 y3 y4 y5
          refine (HRl.out w4).mono ?_
          rintro e w5 ⟨rfl, hb⟩
          have HB5 := hid (HB4.out.trans (hb.mono HB4.out.size))
          clear hb HRl HB4
          go_wp2_with fail
          refine (HCo.out w5 HB5.out).mono ?_
          rintro e w6 ⟨g, rfl, ⟨adw, hmt⟩, hb⟩
          have HB6 := hid (HB5.out.trans (hb.mono HB5.out.size))
          have HW6 := hid hmt.tr
          clear hb hmt HCo HB5
          go_wp2_with fail
          refine (HMeT.out w6 HB6.out).mono ?_
          rintro e w7 ⟨v, rfl, ho, hb⟩
          have HB7 := hid (HB6.out.trans (hb.mono HB6.out.size))
          have HW7 := hid (HW6.out.up hb)
          obtain ⟨MA, mc, rfl, hsl⟩ := own_sl ho
          have HM7 := hid hsl.lie
          clear hb ho hsl HMeT HB6 HW6
          obtain ⟨y0, y1, y2, y3, y4, y5⟩ := HY.out w7 HB7.out
          go_wp2_with fail
          clear y0 y1 y2 y3 y4 y5
          refine (HAdd.out w7 HB7.out).mono ?_
          rintro e w8 ⟨UA, uc, rfl, ⟨adU, hq⟩, hb⟩
          have HB8 := hid (HB7.out.trans (hb.mono HB7.out.size))
          have HW8 := hid (HW7.out.up hb); have HM8 := hid (lie_on HM7.out hb); have HU8 := hid hq
          clear hb hq HAdd HB7 HW7 HM7
          have HC := hid (HRi.out U UA uc adU w8 HU8.out HUm.out HUr.out)
          go_wp2_with fail
          refine HC.out.mono ?_
          rintro e w9 ⟨rfl, hb⟩
          have HB9 := hid (HB8.out.trans (hb.mono HB8.out.size))
          have HW9 := hid (HW8.out.up hb); have HM9 := hid (lie_on HM8.out hb); have HU9 := hid (HU8.out.up hb)
          clear hb HC HB8 HW8 HM8 HU8
          have HC := hid (HMe.out U UA uc adU w9 HU9.out HUm.out)
          go_wp2_with fail
          refine HC.out.mono ?_
          rintro e w10 ⟨v, rfl, ho, hb⟩
          have HB10 := hid (HB9.out.trans (hb.mono HB9.out.size))
          have HW10 := hid (HW9.out.up hb); have HM10 := hid (lie_on HM9.out hb); have HU10 := hid (HU9.out.up hb)
          obtain ⟨NA', nc, rfl, -⟩ := own_sl ho
          rw [HU2.out]
          have hne1 : ((((ML.length + 1 : Nat)) : Int) != wrap64 ((ML.length : Int) + 1)) = false := by
            rw [wrap_1e (by omega) (by have := HML.out; omega)]; simp
          have hw1 : wrap64 ((ML.length : Int) + 1) = (ML.length : Int) + 1 := wrap_1e (by omega) (by have := HML.out; omega)
          clear hb ho HC HB9 HW9 HM9 HU9
          go_wp2_with fail
          refine (HIF.out w10 HB10.out).mono ?_
          rintro e w11 ⟨rfl, hb⟩
          have HB11 := hid (HB10.out.trans (hb.mono HB10.out.size))
          have HW11 := hid (HW10.out.up hb); have HM11 := hid (lie_on HM10.out hb); have HU11 := hid (HU10.out.up hb)
          clear hb HIF HB10 HW10 HM10 HU10 hne1 hw1
          go_wp2_with fail
          refine (HLeaf.out UA uc adU w11 HU11.out).mono ?_
          rintro e w12 ⟨lb, rfl, hlf, hb⟩
          have HB12 := hid (HB11.out.trans (hb.mono HB11.out.size))
          have HW12 := hid (HW11.out.up hb); have HM12 := hid (lie_on HM11.out hb); have HU12 := hid (HU11.out.up hb)
          obtain ⟨X, hX⟩ : ∃ X, X = w12.alloc (.cells (lfV l lb) LfT) := ⟨_, rfl⟩
          have hbX : Below w12.heap.size w12 X := by rw [hX]; exact (Below.refl _ _).alloc (Nat.le_refl _) _
          have HBX := hid (HB12.out.trans (hbX.mono HB12.out.size))
          have HWX := hid (HW12.out.up hbX); have HMX := hid (lie_on HM12.out hbX); have HUX := hid (HU12.out.up hbX)
          have HLX := hid (hlf.on hbX)
          have KX : Hid (X.heap[w12.heap.size]? = some (.cells (lfV l lb) LfT (0, 0))) := hid (by rw [hX]; exact heap_alloc_new w12 _)
          have KA : Hid ((w12.alloc (.cells lfZ LfT)).heap[w12.heap.size]? = some (.cells lfZ LfT (0, 0))) := hid (heap_alloc_new w12 _)
          have hset : (w12.alloc (.cells lfZ LfT)).setRow w12.heap.size (lfV l lb) = X := by rw [hX]; exact setRow_alloc17 w12 lfZ (lfV l lb) LfT
          clear hb hlf HLeaf HB11 HW11 HM11 HU11 hX hbX HB12 HW12 HM12 HU12
          obtain ⟨y0, y1, y2, y3, y4, y5⟩ := HY.out X HBX.out
          have x0 := cell_of KX.out 0 _ rfl; have x1 := cell_of KX.out 1 _ rfl; have x2 := cell_of KX.out 2 _ rfl; have x3 := cell_of KX.out 3 _ rfl; have x4 := cell_of KX.out 4 _ rfl; have x5 := cell_of KX.out 5 _ rfl
          go_wp2_with (first
            | (with_reducible refine wpList_store_row rfl LfT (.tmp 12) _ rfl w12.heap.size (lfV l lb) rfl rfl LfT lfZ KA.out infoLf lfZ_size lfV_one ?_; rw [hset]))
          clear x0 x1 x2 x3 x4 x5 y0 y1 y2 y3 y4 y5
          refine (HSL.out X lb HBX.out HLX.out).mono ?_
          rintro e w13 ⟨rfl, hb⟩
          have HB13 := hid (HBX.out.trans (hb.mono HBX.out.size))
          have HW13 := hid (HWX.out.up hb); have HM13 := hid (lie_on HMX.out hb); have HU13 := hid (HUX.out.up hb)
          clear hb HSL HBX HWX HMX HUX HLX KX KA hset
          go_wp2_with fail
          refine (HRem.out UA uc adU w13 HU13.out).mono ?_
          rintro e w14 ⟨VA, vc, rfl, ⟨adV, hq⟩, hb⟩
          have HB14 := hid (HB13.out.trans (hb.mono HB13.out.size))
          have HW14 := hid (HW13.out.up hb); have HM14 := hid (lie_on HM13.out hb); have HV14 := hid hq
          have HC := hid (HRi.out V VA vc adV w14 HV14.out HC3.out HC2.out)
          clear hb hq HRem HB13 HW13 HM13 HU13
          go_wp2_with fail
          refine HC.out.mono ?_
          rintro e w15 ⟨rfl, hb⟩
          have HB15 := hid (HB14.out.trans (hb.mono HB14.out.size))
          have HW15 := hid (HW14.out.up hb); have HM15 := hid (lie_on HM14.out hb); have HV15 := hid (HV14.out.up hb)
          clear hb HC HB14 HW14 HM14 HV14
          have HC := hid (HMe.out V VA vc adV w15 HV15.out HC3.out)
          rw [HC4.out] at HC
          go_wp2_with fail
          refine HC.out.mono ?_
          rintro e w16 ⟨v, rfl, ho, hb⟩
          have HB16 := hid (HB15.out.trans (hb.mono HB15.out.size))
          have HW16 := hid (HW15.out.up hb); have HM16 := hid (lie_on HM15.out hb)
          obtain ⟨OA, oc, rfl, hsl⟩ := own_sl ho
          have HSM := hid (same_l (c := oc) (c' := mc) hsl.lie HM16.out (by have := HML.out; omega) rfl)
          have hvl : decide ((U.length : Int) < (V.length : Int)) = false := decide_eq_false (by have := HVL.out; omega)
          have hvl' : ¬ (U.length : Int) < (V.length : Int) := by have := HVL.out; omega
          clear hb ho hsl HC HB15 HW15 HM15 HV15
          go_wp2_with fail
          refine HSM.out.mono ?_
          rintro e w17 ⟨rfl, hb⟩
          have HB17 := hid (HB16.out.trans (hb.mono HB16.out.size))
          have HW17 := hid (HW16.out.up hb); have HM17 := hid (lie_on HM16.out hb)
          clear hb HSM HB16 HW16 HM16
          have HC := hid (HIs.out z w17 HB17.out)
          go_wp2_with fail
          refine HC.out.mono ?_
          rintro e w18 ⟨rfl, hb⟩
          have HB18 := hid (HB17.out.trans (hb.mono HB17.out.size))
          have HW18 := hid (HW17.out.up hb); have HM18 := hid (lie_on HM17.out hb)
          clear hb HC HB17 HW17 HM17 hvl hvl'
          by_cases hz : isT t z = true
          · have HUp2 := hid (HUp.out hz w18 HB18.out)
            rw [hz]
            clear hz HUp
            obtain ⟨y0, y1, y2, y3, y4, y5⟩ := HY.out w18 HB18.out
            go_wp2_with fail
            clear y0 y1 y2 y3 y4 y5
            refine HUp2.out.mono ?_
            rintro e w19 ⟨XA, xc, rfl, ⟨u, hu1, hu2, hu3, hu4, ⟨adX, hq⟩⟩, hb⟩
            have HB19 := hid (HB18.out.trans (hb.mono HB18.out.size))
            have HW19 := hid (HW18.out.up hb); have HM19 := hid (lie_on HM18.out hb); have HX19 := hid hq
            have HX2 := hid hu2; have HX3 := hid hu3; have HX4 := hid hu4
            have HC := hid (HRi.out u XA xc adX w19 hq hu2 hu1)
            rw [hu4] at HC
            clear hb hq hu1 hu2 hu3 hu4 HUp2 HB18 HW18 HM18
            go_wp2_with fail
            refine HC.out.mono ?_
            rintro e w20 ⟨rfl, hb⟩
            have HB20 := hid (HB19.out.trans (hb.mono HB19.out.size))
            have HW20 := hid (HW19.out.up hb); have HM20 := hid (lie_on HM19.out hb); have HX20 := hid (HX19.out.up hb)
            clear hb HC HB19 HW19 HM19 HX19
            have HC := hid (HMe.out u XA xc adX w20 HX20.out HX2.out)
            rw [HX3.out, HX4.out] at HC
            go_wp2_with fail
            refine HC.out.mono ?_
            rintro e w21 ⟨v, rfl, ho, hb⟩
            have HB21 := hid (HB20.out.trans (hb.mono HB20.out.size))
            have HW21 := hid (HW20.out.up hb); have HM21 := hid (lie_on HM20.out hb)
            obtain ⟨PA', pc, rfl, hsl⟩ := own_sl ho
            have HSM := hid (same_l (c := pc) (c' := mc) hsl.lie HM21.out (by have := HML.out; omega) rfl)
            have hnl : ((t.length : Int) != (t.length : Int)) = false := by simp
            clear hb ho hsl HC HB20 HW20 HM20 HX20
            go_wp2_with fail
            refine HSM.out.mono ?_
            rintro e w22 ⟨rfl, hb⟩
            have HB22 := hid (HB21.out.trans (hb.mono HB21.out.size))
            have HW22 := hid (HW21.out.up hb)
            have HC := hid (HSa.out w22 _ adw _ HB22.out HW22.out)
            clear hb HSM HB21 HW21 HM21
            go_wp2_with fail
            refine HC.out.mono ?_
            rintro e w23 ⟨rfl, hb⟩
            have HB23 := hid (HB22.out.trans (hb.mono HB22.out.size))
            clear hb HC
            go_wp2
            go_ret
            exact ⟨rfl, HB0.out.trans (HB23.out.mono HB0.out.size)⟩
          · rw [show isT t z = false by simpa using hz]
            have HC := hid (HSa.out w18 _ adw _ HB18.out HW18.out)
            clear hz HUp
            go_wp2_with fail
            refine HC.out.mono ?_
            rintro e w19 ⟨rfl, hb⟩
            have HB19 := hid (HB18.out.trans (hb.mono HB18.out.size))
            clear hb HC
            go_wp2
            go_ret
            exact ⟨rfl, HB0.out.trans (HB19.out.mono HB0.out.size)⟩
        · rw [show leafB l = false by simpa using hlb] at HRl
          clear hA hr hx hs hm hsl hrg hlb hW0 K0 hA0 hx0
          go_enter Try.func5, Try.ntmps5
          go_upto_region 1 with fail
          rw [HE.out]
          go_wp2_with fail
          refine (HAl.out W0).mono ?_
          rintro e w1 ⟨rfl, hb⟩
          have HB1 := hid hb
          clear hb HAl
          go_wp2_with fail
          refine (HSm.out w1 HB1.out).mono ?_
          rintro e w2 ⟨rfl, hb⟩
          have HB2 := hid (HB1.out.trans (hb.mono HB1.out.size))
          clear hb HSm HB1
          obtain ⟨y0, y1, y2, y3, y4, y5⟩ := HY.out w2 HB2.out
          go_wp2_with fail
          clear y0 y1 y2 y3 y4 y5
          refine (HSl.out w2).mono ?_
          rintro e w3 ⟨rfl, hb⟩
          have HB3 := hid (HB2.out.trans (hb.mono HB2.out.size))
          clear hb HSl HB2
          go_wp2_with fail
          refine (HRt.out w3 HB3.out).mono ?_
          rintro e w4 ⟨rfl, hb⟩
          have HB4 := hid (HB3.out.trans (hb.mono HB3.out.size))
          clear hb HRt HB3
          obtain ⟨y0, y1, y2, y3, y4, y5⟩ := HY.out w4 HB4.out
          go_wp2_with fail
          clear y0 y1 y2 y3 y4 y5
          refine (HRl.out w4).mono ?_
          rintro e w5 ⟨rfl, hb⟩
          have HB5 := hid (HB4.out.trans (hb.mono HB4.out.size))
          clear hb HRl HB4
          go_wp2
          go_ret
          exact ⟨rfl, HB0.out.trans (HB5.out.mono HB0.out.size)⟩
      · rw [show rgt t = false by simpa using hrg] at HRt
        clear hA hr hx hs hm hsl hrg hW0 K0 hA0 hx0 HRl
        go_enter Try.func5, Try.ntmps5
        go_upto_region 1 with fail
        rw [HE.out]
        go_wp2_with fail
        refine (HAl.out W0).mono ?_
        rintro e w1 ⟨rfl, hb⟩
        have HB1 := hid hb
        clear hb HAl
        go_wp2_with fail
        refine (HSm.out w1 HB1.out).mono ?_
        rintro e w2 ⟨rfl, hb⟩
        have HB2 := hid (HB1.out.trans (hb.mono HB1.out.size))
        clear hb HSm HB1
        obtain ⟨y0, y1, y2, y3, y4, y5⟩ := HY.out w2 HB2.out
        go_wp2_with fail
        clear y0 y1 y2 y3 y4 y5
        refine (HSl.out w2).mono ?_
        rintro e w3 ⟨rfl, hb⟩
        have HB3 := hid (HB2.out.trans (hb.mono HB2.out.size))
        clear hb HSl HB2
        go_wp2_with fail
        refine (HRt.out w3 HB3.out).mono ?_
        rintro e w4 ⟨rfl, hb⟩
        have HB4 := hid (HB3.out.trans (hb.mono HB3.out.size))
        clear hb HRt HB3
        go_wp2
        go_ret
        exact ⟨rfl, HB0.out.trans (HB4.out.mono HB0.out.size)⟩
    · rw [show smallL l = false by simpa using hsl] at HSl
      clear hA hr hx hs hm hsl hW0 K0 hA0 hx0 HRl HRt
      go_enter Try.func5, Try.ntmps5
      go_upto_region 1 with fail
      rw [HE.out]
      go_wp2_with fail
      refine (HAl.out W0).mono ?_
      rintro e w1 ⟨rfl, hb⟩
      have HB1 := hid hb
      clear hb HAl
      go_wp2_with fail
      refine (HSm.out w1 HB1.out).mono ?_
      rintro e w2 ⟨rfl, hb⟩
      have HB2 := hid (HB1.out.trans (hb.mono HB1.out.size))
      clear hb HSm HB1
      obtain ⟨y0, y1, y2, y3, y4, y5⟩ := HY.out w2 HB2.out
      go_wp2_with fail
      clear y0 y1 y2 y3 y4 y5
      refine (HSl.out w2).mono ?_
      rintro e w3 ⟨rfl, hb⟩
      have HB3 := hid (HB2.out.trans (hb.mono HB2.out.size))
      clear hb HSl HB2
      go_wp2
      go_ret
      exact ⟨rfl, HB0.out.trans (HB3.out.mono HB0.out.size)⟩
  · rw [show smallT t = false by simpa using hs] at HSm
    clear hA hr hx hs hW0 K0 hA0 hx0 HRl HSl HY
    go_enter Try.func5, Try.ntmps5
    go_upto_region 1 with fail
    rw [HE.out]
    go_wp2_with fail
    refine (HAl.out W0).mono ?_
    rintro e w1 ⟨rfl, hb⟩
    have HB1 := hid hb
    clear hb HAl
    go_wp2_with fail
    refine (HSm.out w1 HB1.out).mono ?_
    rintro e w2 ⟨rfl, hb⟩
    have HB2 := hid (HB1.out.trans (hb.mono HB1.out.size))
    clear hb HSm HB1
    go_wp2
    go_ret
    exact ⟨rfl, HB0.out.trans (HB2.out.mono HB0.out.size)⟩
end Go.Proofs.Ythooibljnfnnhaa
end
