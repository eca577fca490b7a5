/-
  Texts of this claim in one file: Law17a, Law17b, Law17c.
-/
import Derived.Test.YthooibljnfnnhaaPk19
import Derived.Test.YthooibljnfnnhaaPk20
import Derived.Test.YthooibljnfnnhaaPk9
import Derived.Test.YthooibljnfnnhaaPk17
import Derived.Test.YthooibljnfnnhaaPk10
section
namespace Go.Proofs.Ythooibljnfnnhaa
open Go Go.RowKit
set_option linter.unusedVariables false
set_option linter.unusedSimpArgs false
theorem infoU8t : (Try.prog.info? 5).map (fun i => (i.zero, i.size, i.bytes)) = some (some (.int .u8 0), 1, 1) := by kernel_rfl
def z17 (n : Nat) : Array Value := madeCells #[.int .u8 0] n
theorem mkB17 (n : Nat) (hn : n ≤ 1000) (W : World) : (Instr.makeSlice 25 (.int .i64 (n : Int)) (.int .i64 (n : Int))).run Try.prog W = .ok (.slice (some ⟨W.heap.size, 0, none⟩) n n) (W.alloc (.cells (z17 n) 5)) := by
  obtain ⟨i, hi, hz, hsize, hby⟩ := info_parts infoU8t
  have h := run_make (P := Try.prog) W 25 5 i _ Try.underlying25 hi hz .i64 .i64 (n : Int) (n : Int) (by omega) (by omega) (by rw [hby]; omega) (by omega)
  rw [hsize, Int.toNat_natCast, show (Value.int .u8 0).cells = #[Value.int .u8 0] from rfl, Nat.mul_one] at h
  exact h
def zs (n : Nat) : List UInt8 := List.replicate n 0
theorem zs_lie {W : World} {p n : Nat} (h : W.heap[p]? = some (.cells (z17 n) 5 (0, 0))) : Lie W W.heap.size (some ⟨p, 0, none⟩) (bvs (zs n)) := fun _ =>
  ⟨p, 0, rfl, block_lt h, fun j u hu => by
    have hj : j < n := by have := (List.getElem?_eq_some_iff.1 hu).1; rw [bvs_length] at this; unfold zs at this; rw [List.length_replicate] at this; exact this
    rw [Nat.zero_add]
    refine cell_of h j u ?_
    rw [← hu]
    unfold z17 madeCells bvs zs
    rw [Array.getElem?_map, Array.getElem?_range, if_pos hj, List.getElem?_map, List.getElem?_replicate, if_pos hj]
    simp [Nat.mod_one]⟩
def oneL : Lf := ⟨zs 32, zs 32, [1], 1, [], zs 64⟩
def oneN : Nd := ⟨1, oneL, pr0⟩
theorem one_out (w W : World) (p1 p2 p3 p4 p5 : Nat) (h1 : W.heap[p1]? = some (.cells (z17 32) 5 (0, 0))) (h2 : W.heap[p2]? = some (.cells (z17 32) 5 (0, 0))) (h3 : W.heap[p3]? = some (.cells #[.int .u8 1] 5 (0, 0))) (h4 : W.heap[p4]? = some (.cells (z17 64) 5 (0, 0)))
    (h5 : W.heap[p5]? = some (.cells #[.int .u8 1, .slice (some ⟨p1, 0, none⟩) 32 32, .slice (some ⟨p2, 0, none⟩) 32 32, .slice (some ⟨p3, 0, none⟩) 1 1, .int .u8 1, .slice none 0 0, .slice (some ⟨p4, 0, none⟩) 64 64, .slice none 0 0, .slice none 0 0, .slice none 0 0] NdT (0, 0))) : TrA w [oneN] (some ⟨p5, 0, none⟩) 1 W := by
  refine ⟨[⟨⟨some ⟨p1, 0, none⟩, some ⟨p2, 0, none⟩, some ⟨p3, 0, none⟩, none, some ⟨p4, 0, none⟩, 32, 32, 1, 0, 64⟩, pa0⟩], ⟨rfl, fun _ => ⟨p5, 0, rfl, block_lt h5, fun j u hu => ?_⟩, fun j n a hn ha => ?_⟩, ⟨Nat.le_refl _, by decide⟩, fun j n a hn ha => ?_⟩
  · rw [Nat.zero_add]
    refine cell_of h5 j u ?_
    rw [← hu]
    have hj : j < 10 := (List.getElem?_eq_some_iff.1 hu).1
    rcases j with _ | _ | _ | _ | _ | _ | _ | _ | _ | _ | j
    all_goals first | rfl | omega
  · rcases j with _ | j
    · cases hn; cases ha
      refine ⟨⟨zs_lie h1, zs_lie h2, fun _ => ⟨p3, 0, rfl, block_lt h3, fun j u hu => ?_⟩, Lie.nil, zs_lie h4⟩, Lie.nil, Lie.nil, Lie.nil⟩
      rw [Nat.zero_add]
      refine cell_of h3 j u ?_
      rw [← hu]
      rcases j with _ | j
      · rfl
      · rfl
    · cases hn
  · rcases j with _ | j
    · cases hn; cases ha
      exact ⟨Nat.zero_le _, (show (0 : Nat) ≤ 9223372036854775807 by decide)⟩
    · cases hn
theorem wpOp_run17 {P : Program} {ops : Array Oper} {Q : Exit → Act → World → Prop} {i : Nat} {o : Oper} {K : Act → World → Prop} {a : Act} {w w' : World} {v : Value} (hi : ops[i]? = some o) (hg : o.guard = none) (hz : (execOp a.eval o).run P w = .ok (.value v) w') (h : K (a.put o.dst v) w') : wpOp P ops Q i K a w := by
  unfold wpOp
  simp only [hi]
  rw [if_pos (by simp [Region.wanted, hg])]
  unfold Oper.wp
  rw [hz]
  exact .inl h
def oV (i p : Nat) : Value := .slice (some ⟨p, 0, none⟩) (match i with | 0 => 32 | 1 => 32 | 2 => 1 | _ => 64) (match i with | 0 => 32 | 1 => 32 | 2 => 1 | _ => 64)
def oO (i : Nat) : Obj := match i with | 0 => .cells (z17 32) 5 | 1 => .cells (z17 32) 5 | 2 => .cells #[.int .u8 1] 5 | _ => .cells (z17 64) 5
def oF (f : Option Nat) (n : Nat) : Value := match f with | none => undef | some p => .slice (some ⟨p, 0, none⟩) n n
def oFr (f0 f1 f2 f3 : Option Nat) : Act := { tmps := #[.slice none 0 0, oF f0 32, oF f1 32, oF f2 1, oF f3 64, undef, undef, undef], defers := [] }
set_option maxRecDepth 100000 in
set_option maxHeartbeats 8000000 in
theorem one_e (w : World) : Calls Try.prog 30 #[] w fun e w' => ∃ A, e = .returned (.slice A 1 1) ∧ TrA w [oneN] A 1 w' ∧ Below w.heap.size w w' := by
  have h32 : ∀ W : World, (Instr.makeSlice 25 (.int .i64 32) (.int .i64 32)).run Try.prog W = .ok (.slice (some ⟨W.heap.size, 0, none⟩) 32 32) (W.alloc (.cells (z17 32) 5)) := mkB17 32 (by decide)
  have h64 : ∀ W : World, (Instr.makeSlice 25 (.int .i64 64) (.int .i64 64)).run Try.prog W = .ok (.slice (some ⟨W.heap.size, 0, none⟩) 64 64) (W.alloc (.cells (z17 64) 5)) := mkB17 64 (by decide)
  go_enter Try.func30, Try.ntmps30
  go_upto_region 1 with fail
  refine wp_region_gr 4 (by kernel_rfl) (by decide) fun w1 hb1 => ?_
  refine wpGr_mk4 oO oV (fun i => some (i + 1)) (fun b0 b1 b2 b3 => #[b0, b1, b2, b3, false, false, false, false]) oFr w1 (by decide) ?mk ?rd ?_ ?_ ?_ ?_ ?_ ?_ ?_ ?_ ?fin 4 none none none none w1 rfl (Below.refl _ _) (fun p h => by cases h) (fun p h => by cases h) (fun p h => by cases h) (fun p h => by cases h)
  case rd => decide +kernel
  case mk =>
    intro i a W K hi hK
    rcases i with _ | _ | _ | _ | i
    · exact wpOp_run17 (v := .slice (some ⟨W.heap.size, 0, none⟩) 32 32) (w' := W.alloc (.cells (z17 32) 5)) rfl rfl (by have h := h32 W; (go_simp; try rfl)) hK
    · exact wpOp_run17 (v := .slice (some ⟨W.heap.size, 0, none⟩) 32 32) (w' := W.alloc (.cells (z17 32) 5)) rfl rfl (by have h := h32 W; (go_simp; try rfl)) hK
    · exact wpOp_sliceTo1 rfl rfl 25 5 1 #[(0, .const (.int .u8 1))] rfl Try.underlying25 #[.int .u8 1] (by kernel_rfl) hK
    · exact wpOp_run17 (v := .slice (some ⟨W.heap.size, 0, none⟩) 64 64) (w' := W.alloc (.cells (z17 64) 5)) rfl rfl (by have h := h64 W; (go_simp; try rfl)) hK
    · omega
  case fin =>
    intro p0 p1 p2 p3 W hb h0 h1 h2 h3
    have HB := hid (hb1.trans (hb.mono hb1.size))
    have H0 := hid h0; have H1 := hid h1; have H2 := hid h2; have H3 := hid h3
    clear hb hb1 h0 h1 h2 h3 h32 h64
    refine ⟨by kernel_rfl, ?_⟩
    simp only [List.drop_succ_cons, List.drop_zero, oFr, oF]
    go_wp2
    go_ret
    refine ⟨_, rfl, one_out w _ p0 p1 p2 p3 W.heap.size ?_ ?_ ?_ ?_ (heap_alloc_new W _), HB.out.alloc HB.out.size _⟩
    · exact (Below.heap_alloc _ _ _ (block_lt H0.out)).trans H0.out
    · exact (Below.heap_alloc _ _ _ (block_lt H1.out)).trans H1.out
    · exact (Below.heap_alloc _ _ _ (block_lt H2.out)).trans H2.out
    · exact (Below.heap_alloc _ _ _ (block_lt H3.out)).trans H3.out
  all_goals (intros; rfl)
end Go.Proofs.Ythooibljnfnnhaa
end
section
namespace Go.Proofs.Ythooibljnfnnhaa
open Go Go.RowKit
set_option linter.unusedVariables false
set_option linter.unusedSimpArgs false
theorem one_lf : leafB oneL = true := by decide
theorem one_rt : Rt [oneN] 0 := by
  have h0 : ∀ x, x < [oneN].length → x = 0 := fun x hx => by simpa using hx
  refine ⟨⟨rfl, by decide⟩, fun x hx => ?_, fun x hx he => ?_, fun x hx ho => ?_, ⟨0, by decide, rfl, .inl rfl⟩, fun x hx l hl => ?_⟩
  · rw [h0 x hx]; exact (show rightB 1 oneL pr0 = true by decide)
  · rw [h0 x hx]; exact (show (1 : Nat) ≠ 2 by decide)
  · have := h0 x hx; omega
  · rw [h0 x hx] at hl; cases hl
theorem one_m : TrM [oneN] := ⟨by decide, fun j n hn => by
  rcases j with _ | j
  · cases hn
    exact ⟨by show LfM oneL; unfold LfM; decide, by show PrM pr0; unfold PrM; decide, (show (1 : Nat) < 256 by decide), fun v hv => by cases hv⟩
  · cases hn⟩
theorem one_200 : Lf200 oneL := by unfold Lf200; decide
theorem one_mem : memR [oneN] = [0] := by unfold memR; rw [if_pos (rgt_yes one_rt)]; decide
theorem one_fil : filR [oneN] 0 = [] := by
  have h := filR_yes (i := 0) one_rt (by decide)
  exact h
theorem one_kT : kT [oneN] = 0 := kT_is one_rt.size
theorem one_I : addI [oneN] 0 = 1 := by decide
theorem one_G : addG [oneN] oneL = true := by unfold addG; rw [rgt_yes one_rt, one_lf, one_kT, one_I]; decide
theorem one_addE : addE [oneN] oneL = 0 := by unfold addE; rw [if_pos (rgt_yes one_rt), if_pos one_lf, one_kT, one_I]; decide
theorem one_addP : addP [oneN] oneL = 1 := by unfold addP; rw [if_pos one_G, one_kT, one_I]
theorem one_addR : addR [oneN] oneL = addU [oneN] 0 oneL := by unfold addR; rw [if_pos one_G, one_kT]
theorem one_len : (addU [oneN] 0 oneL).length = 3 := by unfold addU; rw [addT_length]; decide
theorem one_leaf2 : (nAt (addU [oneN] 0 oneL) 2).k = 1 := by
  have h := (addU_leaf (l := oneL) one_rt (by rw [one_I]; decide)).1
  rw [one_I] at h
  rw [h]
theorem nil_no : rgt [] = false := rgt_no fun K h => by have := h.size.1; have := Nat.two_pow_pos K; simp at *; omega
theorem nil_q (w : World) (B : Nat) : TrQ w B none 0 [] [] := ⟨TrIn.nil _ _ _, ⟨Nat.le_refl _, by decide⟩, fun j n a h => by cases h⟩
theorem nil_m : TrM [] := ⟨by decide, fun j n h => by cases h⟩
abbrev lfLL (x : Lf) (a : LA) : List Value := [.slice a.a0 x.box.length a.c0, .slice a.a1 x.sign.length a.c1, .slice a.a2 x.ident.length a.c2, .int .u8 (x.src : Int), .slice a.a3 x.par.length a.c3, .slice a.a4 x.sig.length a.c4]
theorem lf_ll {w : World} {b o : Nat} {n : Nd} {a : NA} (h : w.rangeAt b o (ndL n a)) : w.rangeAt b (o + 1) (lfLL n.x a.l) := lf_range h
def Alive17 : Prop := ∀ W : World, Calls Try.prog 8 #[] W (RetB W true)
set_option maxRecDepth 100000 in
set_option maxHeartbeats 8000000 in
theorem alive17 : Alive17 := fun w => by
  have HOne := hid (one_e w)
  go_enter Try.func8, Try.ntmps8
  go_wp2_with fail
  refine HOne.out.mono ?_
  rintro e w1 ⟨A, rfl, ⟨ad, hq⟩, hb⟩
  have HB1 := hid hb; have HQ := hid hq
  obtain ⟨b, o, n, a, rfl, hbl, hn, ha, -, hni, hr⟩ := hq.tr.at2 (j := 0) (by decide)
  rw [Nat.zero_mul, Nat.add_zero] at hr
  have hn1 : n = oneN := (Option.some.inj hn).symm
  subst hn1
  have HR : Hid (w1.rangeAt b (o + 1) (lfLL oneL a.l)) := hid (lf_ll hr)
  have HAd := hid (tree_add (some ⟨b, o, none⟩) [oneN] ad 1 oneL a.l w1 hq one_m hni.1 one_200)
  rw [one_addE, one_addP, one_addR, one_len, show [oneN].length = 1 from rfl] at HAd
  clear hb hq hr hni ha hn hbl HOne
  go_wp2_with (with_reducible refine wpList_load_mid rfl LfT (.tmp 10) rfl b (o + 1) rfl (lfLL oneL a.l) _ HR.out Try.underlying27 rfl infoLf ?_)
  refine HAd.out.mono ?_
  rintro e w2 ⟨A2, c2, rfl, ⟨ad2, hq2⟩, hb⟩
  have HB2 := hid (HB1.out.trans (hb.mono HB1.out.size))
  have HQ2 := hid (HQ.out.up hb)
  have HU2 := hid hq2
  have HMe := hid (tree_members (some ⟨b, o, none⟩) [oneN] ad 1 w2 HQ2.out one_m)
  rw [one_mem] at HMe
  clear hb hq2 HAd HR HB1 HQ
  go_wp2_with fail
  refine HMe.out.mono ?_
  rintro e w3 ⟨v, rfl, ho, hb⟩
  have HB3 := hid (HB2.out.trans (hb.mono HB2.out.size))
  have HQ3 := hid (HQ2.out.up hb); have HU3 := hid (HU2.out.up hb)
  obtain ⟨MA, mc, rfl, hs⟩ := own_sl ho
  have HSm : Hid (Calls Try.prog 15 #[.slice MA 1 mc, .slice (some ⟨w3.heap.size, 0, none⟩) 1 1] (w3.alloc (.cells #[.int .i64 0] 3)) (RetB (w3.alloc (.cells #[.int .i64 0] 3)) true)) := hid (by
    have h := Same14_any MA [0] mc (some ⟨w3.heap.size, 0, none⟩) [0] 1 (w3.alloc (.cells #[.int .i64 0] 3)) w3.heap.size (w3.heap.size + 1) (hs.lie.alloc (Nat.le_refl _) _) (Lie.new1 w3 (.int .i64 0) 3) (by decide)
    refine h.mono fun e w' h' => ?_
    first | exact h' | exact ⟨h'.1, by rw [h'.2]; exact Below.refl _ _⟩ | (obtain ⟨h1, q, h2⟩ := h'; exact ⟨h1, by rw [h2]; exact below_dn _ _ _⟩))
  have HA3 : Hid (Below w3.heap.size w3 (w3.alloc (.cells #[.int .i64 0] 3))) := hid ((Below.refl _ _).alloc (Nat.le_refl _) _)
  clear ho hb hs HMe HB2 HQ2 HU2
  go_wp2_with fail
  refine HSm.out.mono ?_
  rintro e w4 ⟨rfl, hb⟩
  have hb34 := HA3.out.trans (hb.mono HA3.out.size)
  have HB4 := hid (HB3.out.trans (hb34.mono HB3.out.size))
  have HQ4 := hid (HQ3.out.up hb34); have HU4 := hid (HU3.out.up hb34)
  have HFi := hid (tree_filtered (some ⟨b, o, none⟩) [oneN] ad 1 0 w4 HQ4.out one_m)
  rw [one_fil] at HFi
  clear hb hb34 HSm HA3 HB3 HQ3 HU3
  go_wp2_with fail
  refine HFi.out.mono ?_
  rintro e w5 ⟨v, rfl, ho, hb⟩
  have HB5 := hid (HB4.out.trans (hb.mono HB4.out.size))
  have HU5 := hid (HU4.out.up hb)
  obtain ⟨FA, fc, rfl, -⟩ := own_sl ho
  have hl3 : 2 < (addU [oneN] 0 oneL).length := by rw [one_len]; decide
  obtain ⟨b2, o2, n2, a2, rfl, hbl2, -, hnt2, -, hr2⟩ := HU5.out.tr.at_ hl3
  have hkc := kind_at hr2
  have hk1 : n2.k = 1 := by rw [hnt2]; exact one_leaf2
  rw [hk1] at hkc
  have HRn := hid (tree_right none [] [] 0 w5 (nil_q _ _) nil_m)
  rw [nil_no] at HRn
  clear ho hb hl3 hbl2 hnt2 hr2 hk1 HFi HB4 HQ4 HU4 HU5
  go_wp2_with fail
  refine HRn.out.mono ?_
  rintro e w6 ⟨rfl, hb⟩
  have HB6 := hid (HB5.out.trans (hb.mono HB5.out.size))
  clear hb HRn HB5 hkc
  go_wp2
  go_ret
  exact ⟨rfl, HB6.out⟩
end Go.Proofs.Ythooibljnfnnhaa
end
section
namespace Go.Proofs.Ythooibljnfnnhaa
open Go Go.RowKit
set_option linter.unusedVariables false
set_option linter.unusedSimpArgs false
theorem wrap_1e {z : Int} (h1 : -2000000000000000000 ≤ z) (h2 : z ≤ 2000000000000000000) : wrap64 z = z := by unfold wrap64; omega
end Go.Proofs.Ythooibljnfnnhaa
end
